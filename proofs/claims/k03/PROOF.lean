import PyProof.Rows.All
import Wide.All
import OpenK.AllK
import Wide.FinOn
import Lean
import PyProof.EqAt
import PyProof.EqKinds
import PyProof.TupleCall
import PySem.Challenge.RW_dykelengths_k03_rows_known
set_option Elab.async false
set_option linter.all false
set_option maxRecDepth 100000
namespace L2
open PySem PySem.Spec PyProof.Rows
inductive Ex1 {A0 : Type} (p : A0 → Prop) : Prop
  | mk (a0 : A0) (h : p a0) : Ex1 p
inductive Ex2 {A0 A1 : Type} (p : A0 → A1 → Prop) : Prop
  | mk (a0 : A0) (a1 : A1) (h : p a0 a1) : Ex2 p
inductive Ex3 {A0 A1 A2 : Type} (p : A0 → A1 → A2 → Prop) : Prop
  | mk (a0 : A0) (a1 : A1) (a2 : A2) (h : p a0 a1 a2) : Ex3 p
inductive Ex4 {A0 A1 A2 A3 : Type} (p : A0 → A1 → A2 → A3 → Prop) : Prop
  | mk (a0 : A0) (a1 : A1) (a2 : A2) (a3 : A3) (h : p a0 a1 a2 a3) : Ex4 p
inductive Ex5 {A0 A1 A2 A3 A4 : Type} (p : A0 → A1 → A2 → A3 → A4 → Prop) : Prop
  | mk (a0 : A0) (a1 : A1) (a2 : A2) (a3 : A3) (a4 : A4) (h : p a0 a1 a2 a3 a4) : Ex5 p
inductive Ex6 {A0 A1 A2 A3 A4 A5 : Type} (p : A0 → A1 → A2 → A3 → A4 → A5 → Prop) : Prop
  | mk (a0 : A0) (a1 : A1) (a2 : A2) (a3 : A3) (a4 : A4) (a5 : A5) (h : p a0 a1 a2 a3 a4 a5) : Ex6 p
inductive All2 (p0 p1 : Prop) : Prop
  | mk (h0 : p0) (h1 : p1) : All2 p0 p1
inductive All3 (p0 p1 p2 : Prop) : Prop
  | mk (h0 : p0) (h1 : p1) (h2 : p2) : All3 p0 p1 p2
inductive All4 (p0 p1 p2 p3 : Prop) : Prop
  | mk (h0 : p0) (h1 : p1) (h2 : p2) (h3 : p3) : All4 p0 p1 p2 p3
inductive All5 (p0 p1 p2 p3 p4 : Prop) : Prop
  | mk (h0 : p0) (h1 : p1) (h2 : p2) (h3 : p3) (h4 : p4) : All5 p0 p1 p2 p3 p4
inductive All7 (p0 p1 p2 p3 p4 p5 p6 : Prop) : Prop
  | mk (h0 : p0) (h1 : p1) (h2 : p2) (h3 : p3) (h4 : p4) (h5 : p5) (h6 : p6) : All7 p0 p1 p2 p3 p4 p5 p6
inductive All8 (p0 p1 p2 p3 p4 p5 p6 p7 : Prop) : Prop
  | mk (h0 : p0) (h1 : p1) (h2 : p2) (h3 : p3) (h4 : p4) (h5 : p5) (h6 : p6) (h7 : p7) : All8 p0 p1 p2 p3 p4 p5 p6 p7
inductive All9 (p0 p1 p2 p3 p4 p5 p6 p7 p8 : Prop) : Prop
  | mk (h0 : p0) (h1 : p1) (h2 : p2) (h3 : p3) (h4 : p4) (h5 : p5) (h6 : p6) (h7 : p7) (h8 : p8) : All9 p0 p1 p2 p3 p4 p5 p6 p7 p8
inductive All10 (p0 p1 p2 p3 p4 p5 p6 p7 p8 p9 : Prop) : Prop
  | mk (h0 : p0) (h1 : p1) (h2 : p2) (h3 : p3) (h4 : p4) (h5 : p5) (h6 : p6) (h7 : p7) (h8 : p8) (h9 : p9) : All10 p0 p1 p2 p3 p4 p5 p6 p7 p8 p9
theorem len1 {α : Type} {us : List α} (h : us.length = 1) : ∃ a0, us = [a0] := by
  cases us with
  | nil => simp at h
  | cons a0 r0 =>
    cases r0 with
    | nil => exact ⟨a0, rfl⟩
    | cons _ _ => simp at h
theorem len2 {α : Type} {us : List α} (h : us.length = 2) : ∃ a0 a1, us = [a0, a1] := by
  cases us with
  | nil => simp at h
  | cons a0 r0 =>
    cases r0 with
    | nil => simp at h
    | cons a1 r1 =>
      cases r1 with
      | nil => exact ⟨a0, a1, rfl⟩
      | cons _ _ => simp at h
theorem len3 {α : Type} {us : List α} (h : us.length = 3) : ∃ a0 a1 a2, us = [a0, a1, a2] := by
  cases us with
  | nil => simp at h
  | cons a0 r0 =>
    cases r0 with
    | nil => simp at h
    | cons a1 r1 =>
      cases r1 with
      | nil => simp at h
      | cons a2 r2 =>
        cases r2 with
        | nil => exact ⟨a0, a1, a2, rfl⟩
        | cons _ _ => simp at h
theorem len4 {α : Type} {us : List α} (h : us.length = 4) : ∃ a0 a1 a2 a3, us = [a0, a1, a2, a3] := by
  cases us with
  | nil => simp at h
  | cons a0 r0 =>
    cases r0 with
    | nil => simp at h
    | cons a1 r1 =>
      cases r1 with
      | nil => simp at h
      | cons a2 r2 =>
        cases r2 with
        | nil => simp at h
        | cons a3 r3 =>
          cases r3 with
          | nil => exact ⟨a0, a1, a2, a3, rfl⟩
          | cons _ _ => simp at h
theorem len5 {α : Type} {us : List α} (h : us.length = 5) : ∃ a0 a1 a2 a3 a4, us = [a0, a1, a2, a3, a4] := by
  cases us with
  | nil => simp at h
  | cons a0 r0 =>
    cases r0 with
    | nil => simp at h
    | cons a1 r1 =>
      cases r1 with
      | nil => simp at h
      | cons a2 r2 =>
        cases r2 with
        | nil => simp at h
        | cons a3 r3 =>
          cases r3 with
          | nil => simp at h
          | cons a4 r4 =>
            cases r4 with
            | nil => exact ⟨a0, a1, a2, a3, a4, rfl⟩
            | cons _ _ => simp at h

noncomputable abbrev Key := Sum Int Str
noncomputable def keyIs : Key → Value → Bool
  | .inl k, v => Value.isInt k v
  | .inr x, v => Value.isStrOf x v
noncomputable def keyH (w : World) : Key → Int
  | .inl k => hashInt k
  | .inr x => hashStr w x
theorem keyIs_shape : ∀ {k : Key} {v : Value}, keyIs k v = true → (∃ i t, k = Sum.inl i ∧ v = Value.int i t) ∨ (∃ x t, k = Sum.inr x ∧ v = Value.str x t)
  | .inl i, v, h => by
    obtain ⟨t, e⟩ := Value.isInt_shape (k := i) (v := v) h
    exact .inl ⟨i, t, rfl, e⟩
  | .inr x, v, h => by
    obtain ⟨t, e⟩ := Value.isStrOf_shape (x := x) (v := v) h
    exact .inr ⟨x, t, rfl, e⟩
theorem keyIs_int (i : Int) (t : Tok) : keyIs (.inl i) (.int i t) = true := by simp [keyIs, Value.isInt]
theorem keyIs_str (x : Str) (t : Tok) : keyIs (.inr x) (.str x t) = true := by simp [keyIs, Value.isStrOf]
theorem key_ll (a b : Int) : decide ((Sum.inl a : Key) = Sum.inl b) = (a == b) := by
  by_cases e : a = b
  · subst e; simp
  · have h : ¬ (Sum.inl a : Key) = Sum.inl b := fun q => e (Sum.inl.inj q)
    rw [decide_eq_false h]
    exact (beq_eq_false_iff_ne.mpr e).symm
theorem key_rr (a b : Str) : decide ((Sum.inr a : Key) = Sum.inr b) = decide (a = b) := by
  by_cases e : a = b
  · subst e; simp
  · have h : ¬ (Sum.inr a : Key) = Sum.inr b := fun q => e (Sum.inr.inj q)
    rw [decide_eq_false h, decide_eq_false e]
theorem key_lr (a : Int) (b : Str) : decide ((Sum.inl a : Key) = Sum.inr b) = false := decide_eq_false (fun q => nomatch q)
theorem key_rl (a : Str) (b : Int) : decide ((Sum.inr a : Key) = Sum.inl b) = false := decide_eq_false (fun q => nomatch q)

noncomputable def mixKind (prog : Program) (w : World) : PySem.KeyKind prog w Key where
  is := keyIs
  hash := keyH w
  inj := fun v a b ha hb => by
    rcases keyIs_shape ha with ⟨i, t, rfl, rfl⟩ | ⟨x, t, rfl, rfl⟩
    · rcases keyIs_shape hb with ⟨j, u, rfl, e⟩ | ⟨y, u, rfl, e⟩
      · injection e with e1 _; rw [e1]
      · exact nomatch e
    · rcases keyIs_shape hb with ⟨j, u, rfl, e⟩ | ⟨y, u, rfl, e⟩
      · exact nomatch e
      · injection e with e1 _; rw [e1]
  byValue := fun k v h => by
    rcases keyIs_shape h with ⟨i, t, rfl, rfl⟩ | ⟨x, t, rfl, rfl⟩ <;> rfl
  pyHash := fun hv h => by
    rcases keyIs_shape hv with ⟨i, t, rfl, rfl⟩ | ⟨x, t, rfl, rfl⟩
    · exact wpAny_pyHash_int h
    · exact wpAny_pyHash_str h
  eqBool := fun hu hv h => by
    rcases keyIs_shape hu with ⟨i, t, rfl, rfl⟩ | ⟨x, t, rfl, rfl⟩
    · rcases keyIs_shape hv with ⟨j, u, rfl, rfl⟩ | ⟨y, u, rfl, rfl⟩
      · rw [key_ll] at h; exact wpAny_eqBool_int h
      · rw [key_lr] at h; exact SeqAt.EqAt.int_str i t y u _ _ _ _ h
    · rcases keyIs_shape hv with ⟨j, u, rfl, rfl⟩ | ⟨y, u, rfl, rfl⟩
      · rw [key_rl] at h; exact SeqAt.EqAt.str_int x t j u _ _ _ _ h
      · rw [key_rr] at h; exact wpAny_eqBool_str h
  «strs» := fun k x t v h => by
    rcases keyIs_shape h with ⟨i, u, rfl, e⟩ | ⟨y, u, rfl, e⟩
    · exact nomatch e
    · injection e with e1 _
      subst e1
      cases v <;> rfl

theorem mixKind_int (prog : Program) (w : World) (i : Int) (t : Tok) : (mixKind prog w).is (.inl i) (.int i t) = true := keyIs_int i t
theorem mixKind_str (prog : Program) (w : World) (x : Str) (t : Tok) : (mixKind prog w).is (.inr x) (.str x t) = true := keyIs_str x t
end L2

namespace L2
open PySem PySem.Spec PyProof.Rows

inductive V where
  | non | bl (b : Bool) | int (i : Int) | str (x : Str) | byt (b : Array UInt8) | flt (b : UInt64) | ref (a : Addr) | ty (n : String)
  deriving DecidableEq

noncomputable def RelV : V → Value → Prop
  | .non, u => u = Value.none
  | .bl b, u => u = Value.bool b
  | .int i, u => ∃ t, u = Value.int i t
  | .str x, u => ∃ t, u = Value.str x t
  | .byt b, u => ∃ t, u = Value.bytes b t
  | .flt b, u => ∃ t, u = Value.float b t
  | .ref a, u => u = Value.ref a
  | .ty n, u => u = Value.type n

noncomputable abbrev Vals : List V → List Value → Prop := Paired RelV
theorem Vals.length {xs : List V} {us : List Value} (r : Vals xs us) : xs.length = us.length := Paired.length r
theorem Vals.get : ∀ {xs : List V} {us : List Value} {i : Nat} {x : V}, Vals xs us → xs[i]? = some x → ∃ u, us[i]? = some u ∧ RelV x u
  | _, _, _, _, .nil, e => by simp at e
  | _, _, 0, _, .cons r _, e => by simp at e; subst e; exact ⟨_, rfl, r⟩
  | _, _, i + 1, x, .cons _ t, e => by
    obtain ⟨u, h1, h2⟩ := Vals.get (i := i) (x := x) t (by simpa using e)
    exact ⟨u, by simpa using h1, h2⟩
theorem Vals.set {x : V} {u : Value} (r : RelV x u) : ∀ {xs : List V} {us : List Value} (i : Nat), Vals xs us → Vals (xs.set i x) (us.set i u)
  | _, _, _, .nil => .nil
  | _, _, 0, .cons _ t => .cons r t
  | _, _, i + 1, .cons q t => .cons q (Vals.set r i t)
theorem Vals.append : ∀ {xs ys : List V} {us ws : List Value}, Vals xs us → Vals ys ws → Vals (xs ++ ys) (us ++ ws)
  | _, _, _, _, .nil, s => s
  | _, _, _, _, .cons r t, s => .cons r (Vals.append t s)
theorem Vals.take : ∀ {xs : List V} {us : List Value} (n : Nat), Vals xs us → Vals (xs.take n) (us.take n)
  | _, _, 0, _ => .nil
  | _, _, _ + 1, .nil => .nil
  | _, _, n + 1, .cons r t => .cons r (Vals.take n t)
theorem Vals.drop : ∀ {xs : List V} {us : List Value} (n : Nat), Vals xs us → Vals (xs.drop n) (us.drop n)
  | _, _, 0, r => r
  | _, _, _ + 1, .nil => .nil
  | _, _, n + 1, .cons _ t => Vals.drop n t
noncomputable def RelO : Option V → Option Value → Prop
  | some v, some u => RelV v u
  | none, none => True
  | _, _ => False
noncomputable def KV {κ : Type} : List (κ × V) → List (κ × Value) → Prop := Paired fun (p : κ × V) (q : κ × Value) => p.1 = q.1 ∧ RelV p.2 q.2

noncomputable def kV : Key → V
  | .inl i => .int i
  | .inr x => .str x

inductive HO where
    | lst (xs : List V)
    | tup (xs : List V)
    | dK (kvs : List (Key × V)) | dT (kvs : List (List Key × V))
    | set (S : Int → Bool) (n : Nat)
    | ins (C dx : Addr) (fs : List (Str × V))
    | own (x : Addr)
    | xd (fs : List (Str × V))
    | met (f x : Addr)
    | rng (lo hi : Int)
    | frz (o : Obj) (u : HO)
    | tbl (ps : Array Value)
    | ext (φ : Heap → Prop)

noncomputable abbrev Hp := Addr → Option HO
noncomputable def upd (H : Hp) (a : Addr) (o : HO) : Hp := fun b => if b = a then some o else H b
theorem upd_same {H : Hp} {a : Addr} {o : HO} : upd H a o a = some o := by unfold upd; rw [if_pos rfl]
theorem upd_ne {H : Hp} {a b : Addr} {o : HO} (h : b ≠ a) : upd H a o b = H b := by unfold upd; rw [if_neg h]
theorem upd_upd {H : Hp} {a : Addr} {o u : HO} : upd (upd H a o) a u = upd H a u := by
  funext b; unfold upd; split <;> rfl
theorem ne_of {H : Hp} {a b : Addr} {o u : HO} (h : H a = some o) (h' : H b = some u) (d : o ≠ u) : a ≠ b := by
  intro e; subst e; rw [h] at h'; exact d (Option.some.inj h')
theorem ne_of_none {H : Hp} {a b : Addr} {o : HO} (h : H a = some o) (h' : H b = none) : a ≠ b := by
  intro e; subst e; rw [h] at h'; cases h'

section
variable (P : Program) (w : World)
noncomputable def ObjOk (H : Hp) (h : Heap) (a : Addr) : HO → Prop
  | .lst xs => xs.length ≤ sizeLine ∧ ∃ (its : List Value) (n : Nat), Vals xs its ∧ h.get? a = some { cls := .type "list", data := .seq its.toArray n }
  | .tup xs => xs.length ≤ sizeLine ∧ ∃ its : List Value, Vals xs its ∧ IsTup h a its.toArray
  | .dK kvs => kvs.length ≤ sizeLine ∧ (a == sysModules) = false ∧ ∃ vs, KV kvs vs ∧ h.DictOf (mixKind P w) a vs
  | .dT kvs => kvs.length ≤ sizeLine ∧ (a == sysModules) = false ∧ ∃ xs : List (List Key × Addr × Value),
      Paired (fun (p : List Key × V) (q : List Key × Addr × Value) => p.1 = q.1 ∧ H q.2.1 = some (.tup (p.1.map kV)) ∧ RelV p.2 q.2.2) kvs xs ∧
      ∃ o es ep, h.get? a = some o ∧ o.ExactDict ∧ o.data = .dict es ep ∧ es.toList = xs.map (entryOfKey (tupleKind (mixKind P w))) ∧ (xs.map (·.1)).Nodup
  | .set S n => h.SetOf (intKind P w) a S n
  | .ins C dx fs => H dx = some (.own a) ∧ fs.length ≤ 1000 ∧ dx ≠ a ∧ h.get? a = some (PySem.W.instObj C dx) ∧
      ∃ mA, h.Ns1 dx mA ∧ (∀ f, RelO (fs.lookup f) (mA f)) ∧ PySem.Within mA (fs.map (·.1))
  | .own _ => ∃ o, h.get? a = some o
  | .xd fs => ∃ mA, h.Ns1 a mA ∧ ∀ f, RelO (fs.lookup f) (mA f)
  | .rng lo hi => ∃ t u v, h.get? a = some { cls := .type "range", data := .fields #[.int lo t, .int hi u, .int 1 v] }
  | .frz o u => h.get? a = some o ∧ ObjOk H h a u
  | .tbl ps => h.get? a = some { cls := .none, data := .fields ps }
  | .met f x => h.get? a = some (PySem.W.methodObj (.ref f) (.ref x))
  | .ext φ => φ h ∧ (∃ o, h.get? a = some o) ∧ ∀ h1 h2 : Heap, φ h1 → (∀ o, h1.get? a = some o → h2.get? a = some o) → φ h2
noncomputable def HOk (H : Hp) (h : Heap) : Prop := ∀ a o, H a = some o → ObjOk P w H h a o
end

section
variable {P : Program} {w : World} {H H' : Hp} {h h' : Heap} {a : Addr} {o : HO}
theorem ObjOk.lt (x : ObjOk P w H h a o) : a < h.objs.size := by
  cases o with
  | lst xs => obtain ⟨_, _, _, _, e⟩ := x; exact Heap.lt_size e
  | tup xs => obtain ⟨_, _, _, p⟩ := x; exact p.lt
  | dK kvs => obtain ⟨_, _, _, _, o, _, _, e, _⟩ := x; exact Heap.lt_size e
  | dT kvs => obtain ⟨_, _, _, _, o, _, _, e, _⟩ := x; exact Heap.lt_size e
  | set S n => obtain ⟨o, _, _, _, e, _⟩ := x; exact Heap.lt_size e
  | ins C dx fs => obtain ⟨_, _, _, e, _⟩ := x; exact Heap.lt_size e
  | own y => obtain ⟨_, e⟩ := x; exact Heap.lt_size e
  | xd fs => obtain ⟨_, ⟨_, _, _, e, _⟩, _⟩ := x; exact Heap.lt_size e
  | rng lo hi => obtain ⟨_, _, _, e⟩ := x; exact Heap.lt_size e
  | frz ob u => obtain ⟨e, _⟩ := x; exact Heap.lt_size e
  | tbl ps => exact Heap.lt_size (show h.get? a = some _ from x)
  | met f y => exact Heap.lt_size (show h.get? a = some _ from x)
  | ext φ => obtain ⟨_, ⟨_, e⟩, _⟩ := x; exact Heap.lt_size e
theorem Paired.mapP {α β : Type} {F G : α → β → Prop} : ∀ {l₁ : List α} {l₂ : List β}, Paired F l₁ l₂ → (∀ a b, F a b → G a b) → Paired G l₁ l₂
  | _, _, .nil, _ => .nil
  | _, _, .cons r t, f => .cons (f _ _ r) (Paired.mapP t f)
theorem ObjOk.stay (x : ObjOk P w H h a o) (k : ∀ b u, (b = a ∨ H b = some (.own a)) → h.get? b = some u → h'.get? b = some u)
    (ho : ∀ b, H b = some (.own a) → H' b = some (.own a)) (ht : ∀ b xs, H b = some (.tup xs) → H' b = some (.tup xs)) : ObjOk P w H' h' a o := by
  induction o with
  | lst xs => obtain ⟨z, its, n, r, e⟩ := x; exact ⟨z, its, n, r, k _ _ (.inl rfl) e⟩
  | tup xs => obtain ⟨z, its, r, ob, e, c⟩ := x; exact ⟨z, its, r, ob, k _ _ (.inl rfl) e, c⟩
  | dK kvs => obtain ⟨z, y, vs, r, ob, es, ep, e, c⟩ := x; exact ⟨z, y, vs, r, ob, es, ep, k _ _ (.inl rfl) e, c⟩
  | dT kvs =>
    obtain ⟨z, y, xs, r, ob, es, ep, e, c⟩ := x
    exact ⟨z, y, xs, Paired.mapP r fun p q z => ⟨z.1, ht _ _ z.2.1, z.2.2⟩, ob, es, ep, k _ _ (.inl rfl) e, c⟩
  | set S n => obtain ⟨ob, es, ep, t, e, c⟩ := x; exact ⟨ob, es, ep, t, k _ _ (.inl rfl) e, c⟩
  | ins C dx fs =>
    obtain ⟨d, z, ne, e, mA, ⟨od, es, ep, e2, c⟩, r⟩ := x
    exact ⟨ho _ d, z, ne, k _ _ (.inl rfl) e, mA, ⟨od, es, ep, k _ _ (.inr d) e2, c⟩, r⟩
  | own y => obtain ⟨ob, e⟩ := x; exact ⟨ob, k _ _ (.inl rfl) e⟩
  | xd fs => obtain ⟨mA, ⟨od, es, ep, e, c⟩, r⟩ := x; exact ⟨mA, ⟨od, es, ep, k _ _ (.inl rfl) e, c⟩, r⟩
  | rng lo hi => obtain ⟨t, u, v, e⟩ := x; exact ⟨t, u, v, k _ _ (.inl rfl) e⟩
  | frz ob u ih => obtain ⟨e, q⟩ := x; exact ⟨k _ _ (.inl rfl) e, ih q⟩
  | tbl ps =>
    have e : h.get? a = some { cls := .none, data := .fields ps } := x
    show h'.get? a = some { cls := .none, data := .fields ps }
    exact k a _ (.inl rfl) e
  | met f y =>
    have e : h.get? a = some (PySem.W.methodObj (.ref f) (.ref y)) := x
    show h'.get? a = some (PySem.W.methodObj (.ref f) (.ref y))
    exact k a _ (.inl rfl) e
  | ext φ => obtain ⟨p, ⟨o, e⟩, st⟩ := x; exact ⟨st _ _ p fun o q => k _ _ (.inl rfl) q, ⟨o, k _ _ (.inl rfl) e⟩, st⟩
theorem HOk.lt (x : HOk P w H h) (e : H a = some o) : a < h.objs.size := (x a o e).lt
theorem HOk.fresh (x : HOk P w H h) (e : h.objs.size ≤ a) : H a = none := by
  cases q : H a with
  | none => rfl
  | some u => exact absurd (Nat.lt_of_lt_of_le (x.lt q) e) (Nat.lt_irrefl _)
theorem HOk.kept (x : HOk P w H h) (k : ∀ b u, h.get? b = some u → h'.get? b = some u) : HOk P w H h' := fun a o e =>
  (x a o e).stay (fun b u _ q => k b u q) (fun _ q => q) fun _ _ q => q
theorem HOk.laid (x : HOk P w H h) (k : ∀ b u, h.get? b = some u → h'.get? b = some u) (hp : h.objs.size ≤ a) (new : ObjOk P w (upd H a o) h' a o) : HOk P w (upd H a o) h' := fun b u e => by
  have hn := x.fresh hp
  by_cases hb : b = a
  · subst hb; rw [upd_same] at e; cases e; exact new
  · rw [upd_ne hb] at e
    exact (x b u e).stay (fun c v _ q => k c v q) (fun c q => by rw [upd_ne (ne_of_none q hn)]; exact q) fun c xs q => by rw [upd_ne (ne_of_none q hn)]; exact q
end

noncomputable def Rd (H : Hp) (a : Addr) (u : HO) : Prop := H a = some u ∨ ∃ o, H a = some (.frz o u)
theorem Rd.of {H : Hp} {a : Addr} {u : HO} (h : H a = some u) : Rd H a u := .inl h
theorem Rd.ok {P : Program} {w : World} {H : Hp} {h : Heap} {a : Addr} {u : HO} (r : Rd H a u) (x : HOk P w H h) : ObjOk P w H h a u := by
  rcases r with r | ⟨o, r⟩
  · exact x a u r
  · obtain ⟨_, q⟩ := x a _ r
    exact q
noncomputable def Mut : Option HO → Prop
  | some (.lst _) => True
  | some (.dK _) => True
  | some (.dT _) => True
  | some (.set _ _) => True
  | some (.ins _ _ _) => True
  | some (.ext _) => True
  | _ => False
section
variable {P : Program} {w : World} {H : Hp} {h h' : Heap} {x e : Addr} {o' : HO}
theorem HOk.write (ok : HOk P w H h) (mu : Mut (H x)) (he : e = x ∨ H e = some (.own x)) (k : ∀ b u, b ≠ e → h.get? b = some u → h'.get? b = some u) (heo : ∃ u, h'.get? e = some u)
    (new : ObjOk P w (upd H x o') h' x o') : HOk P w (upd H x o') h' := fun b u q => by
  have nown : ∀ c y, H c = some (.own y) → c ≠ x := fun c y r z => by subst z; rw [r] at mu; exact mu
  have ntup : ∀ c xs, H c = some (.tup xs) → c ≠ x := fun c xs r z => by subst z; rw [r] at mu; exact mu
  by_cases hb : b = x
  · subst hb; rw [upd_same] at q; cases q; exact new
  · rw [upd_ne hb] at q
    by_cases hbe : b = e
    · have q' : H b = some (.own x) := by
        rcases he with z | z
        · exact absurd (hbe.trans z) hb
        · rw [hbe]; exact z
      rw [q] at q'; cases q'
      obtain ⟨v, hv⟩ := heo
      exact ⟨v, by rw [hbe]; exact hv⟩
    · refine (ok b u q).stay (fun c v hc r => k c v ?_ r) (fun c r => by rw [upd_ne (nown c b r)]; exact r) fun c xs r => by rw [upd_ne (ntup c xs r)]; exact r
      rcases hc with rfl | hc
      · exact hbe
      · rintro rfl
        rcases he with z | z
        · exact nown c b hc z
        · rw [hc] at z; cases z; exact hb rfl
end

structure Un (fs ex : List Addr) (H H' : Hp) (h h' : Heap) : Prop where
  keep : ∀ b o, h.get? b = some o → H b = none → b ∉ fs → b ∉ ex → h'.get? b = some o
  slot : ∀ b o, h.get? b = some o → H b = none → b ∈ fs → b ∉ ex → ∃ sl, h'.get? b = some { o with slots := sl }
  free : ∀ b o, h.get? b = some o → H b = none → b ∉ ex → H' b = none
  there : ∀ b o, h.get? b = some o → b ∉ ex → ∃ o', h'.get? b = some o'
  tups : ∀ b xs, H b = some (.tup xs) → H' b = some (.tup xs)
  frzs : ∀ b o u, H b = some (.frz o u) → H' b = some (.frz o u)
  tbls : ∀ b ps, H b = some (.tbl ps) → ∃ more, H' b = some (.tbl (ps ++ more))
section
variable {fs fs' ex ex' : List Addr} {H H1 H2 : Hp} {h h1 h2 h' : Heap} {a x e : Addr} {o : HO}
theorem Un.any (u : Un fs ex H H1 h h1) {b : Addr} {ob : Obj} (q : h.get? b = some ob) (n : H b = none) (hx : b ∉ ex) : ∃ sl, h1.get? b = some { ob with slots := sl } := by
  by_cases hb : b ∈ fs
  · exact u.slot b ob q n hb hx
  · exact ⟨ob.slots, u.keep b ob q n hb hx⟩
theorem Un.kept (k : ∀ b u, h.get? b = some u → h'.get? b = some u) : Un fs ex H H h h' :=
  ⟨fun b ob q _ _ _ => k b ob q, fun b ob q _ _ _ => ⟨ob.slots, k b ob q⟩, fun _ _ _ n _ => n, fun b ob q _ => ⟨ob, k b ob q⟩, fun _ _ q => q, fun _ _ _ q => q, fun _ ps q => ⟨#[], by rw [q]; simp⟩⟩
theorem Un.refl : Un fs ex H H h h := Un.kept fun _ _ q => q
theorem Un.laid (k : ∀ b u, h.get? b = some u → h'.get? b = some u) (hp : h.objs.size ≤ a) (hn : H a = none) : Un fs ex H (upd H a o) h h' where
  keep := fun b u q _ _ _ => k b u q
  slot := fun b u q _ _ _ => ⟨u.slots, k b u q⟩
  free := fun b u q n _ => by rw [upd_ne (Nat.ne_of_lt (Nat.lt_of_lt_of_le (Heap.lt_size q) hp))]; exact n
  there := fun b u q _ => ⟨u, k b u q⟩
  tups := fun b xs q => by rw [upd_ne (ne_of_none q hn)]; exact q
  frzs := fun b u xs q => by rw [upd_ne (ne_of_none q hn)]; exact q
  tbls := fun b ps q => ⟨#[], by rw [upd_ne (ne_of_none q hn), q]; simp⟩
theorem Un.write (mu : Mut (H x)) (he : e = x ∨ H e = some (.own x)) (k : ∀ b u, b ≠ e → h.get? b = some u → h'.get? b = some u) (heo : ∃ u, h'.get? e = some u) : Un fs ex H (upd H x o) h h' := by
  have hx : ∀ b, H b = none → b ≠ x := fun b n z => by subst z; rw [n] at mu; exact mu
  have hb : ∀ b, H b = none → b ≠ e := fun b n z => by
    subst z
    rcases he with r | r
    · exact hx b n r
    · rw [n] at r; cases r
  have hm : ∀ b u, H b = some u → ¬ Mut (some u) → b ≠ x := fun b u q nm z => by subst z; rw [q] at mu; exact nm mu
  refine ⟨fun b u q n _ _ => k b u (hb b n) q, fun b u q n _ _ => ⟨u.slots, k b u (hb b n) q⟩, fun b u q n _ => by rw [upd_ne (hx b n)]; exact n, fun b u q _ => ?_,
    fun b xs q => by rw [upd_ne (hm b _ q fun z => z)]; exact q, fun b u xs q => by rw [upd_ne (hm b _ q fun z => z)]; exact q, fun b ps q => ⟨#[], by rw [upd_ne (hm b _ q fun z => z), q]; simp⟩⟩
  by_cases hbe : b = e
  · subst hbe; exact heo
  · exact ⟨u, k b u hbe q⟩
end

noncomputable def trk (h : Heap) (H : Hp) : List Addr := (List.range h.objs.size).filter fun a => (H a).isSome
noncomputable def hidT (h : Heap) (H : Hp) : Heap := PySem.W.hideAll h (trk h H)
theorem hidT_size (h : Heap) (H : Hp) : (hidT h H).objs.size = h.objs.size := PySem.W.hideAll_size _ _
theorem hidT_get {h : Heap} {H : Hp} {b : Addr} {o : Obj} (e : h.get? b = some o) (n : H b = none) : (hidT h H).get? b = some o :=
  PySem.W.hideAll_get _ e fun hm => by
    have q : (H b).isSome = true := (List.mem_filter.mp hm).2
    rw [n] at q; simp at q
theorem of_hidT {h : Heap} {H : Hp} {b : Addr} {o : Obj} (e : (hidT h H).get? b = some o) : h.get? b = some o ∧ H b = none := by
  have e' : h.get? b = some o := PySem.W.of_hideAll (trk h H) e
  refine ⟨e', ?_⟩
  cases q : H b with
  | none => rfl
  | some x =>
    have hm : b ∈ trk h H := List.mem_filter.mpr ⟨List.mem_range.mpr (Heap.lt_size e'), by simp [q]⟩
    have z : (hidT h H).get? b = none := PySem.W.hideAll_none (trk h H) hm
    rw [z] at e; cases e

noncomputable def allNews (g h : Heap) (L : Addr) : List (Addr × Obj) := (List.range h.objs.size).filterMap fun a => if a = L ∨ (g.get? a).isSome = true then none else (h.get? a).map fun o => (a, o)
noncomputable def rest (g h : Heap) (L d : Addr) : List (Addr × Obj) := (allNews g h L).filter fun p => decide (p.1 ≠ d)
end L2

namespace L2
open PySem PySem.Spec PyProof.Rows

structure Mod (K : PySem.W.Frag) (mg : Str → Option Value) (base : Heap) : Prop where
  kin : K.In base
  glob : base.Ns mainGlobals mg
  blt : ∃ mb, base.Ns builtinsNs mb ∧ ∀ x : Str, x ≠ "__name__" → mb x = bootBuiltins x
  nolimit : base.NoLimit

structure Cx where
  prog : Program
  w : World
  K : PySem.W.Frag
  mg : Str → Option Value
  base : Heap
  A : Around
  N : List Str
  s₀ : Shared
  H₀ : Hp
  env : Env
  outer : List Env
  stack : List Env
  ex : List Addr
  fn : Str → Bool
  calm : Bool
  pn : List (Addr × Obj)
  xe : Value → Shared → Prop
noncomputable def frs (l : List Env) : List Addr := l.filterMap (·.frame)
noncomputable abbrev Cx.fs (X : Cx) : List Addr := frs X.outer

noncomputable def Vis (sc : Scope) (x : Str) : Prop := sc.names.lookup x = some .local ∨ sc.names.lookup x = some .cell ∨ sc.names.lookup x = some .free
noncomputable def Loc (sc : Scope) (x : Str) : Prop := sc.names.lookup x = some .local ∨ sc.names.lookup x = some .cell
noncomputable def Look (env : Env) (h : Heap) (m : Str → Option Value) (x : Str) (u : Value) : Prop :=
  (env.kindOf x = some .local ∧ m x = some u) ∨ ((env.kindOf x = some .cell ∨ env.kindOf x = some .free) ∧ ∃ c, env.cells.lookup x = some c ∧ h.IsCell c (some u))

structure Cx.Ok (X : Cx) : Prop where
  mod : Mod X.K X.mg X.base
  kind : X.env.scope.kind = .function
  glob : X.env.globals = mainGlobals
  blt : X.env.builtins = builtinsNs
  above : X.s₀.heap.objs.size ≤ X.env.locals
  inj : ∀ x y c, X.env.cells.lookup x = some c → X.env.cells.lookup y = some c → x = y
  has : ∀ x, (X.env.kindOf x = some .cell ∨ X.env.kindOf x = some .free) → ∃ c, X.env.cells.lookup x = some c
  cab : ∀ x c, X.fn x = true → X.env.cells.lookup x = some c → X.s₀.heap.objs.size ≤ c
  hd : X.calm = true → X.A.handled = none
  frames : X.A.frames = some X.stack
  stk : X.stack = X.outer ∨ (X.stack = X.env :: X.outer ∧ X.env.frame = some X.env.locals)
  exf : ∀ b ∈ X.ex, b ≠ X.env.locals ∧ ∀ x c, X.env.cells.lookup x = some c → c ≠ b
  bs : ∀ b o, X.base.get? b = some o → X.s₀.heap.get? b = some o ∧ X.H₀ b = none
  bsz : X.base.objs.size ≤ X.s₀.heap.objs.size
  noex : ∀ b o, X.base.get? b = some o → b ∉ X.ex
  exfs : ∀ b ∈ X.ex, b ∉ X.fs
  funs : X.s₀.heap.FunFrames X.base X.outer
  frf : ∀ b ∈ X.fs, X.H₀ b = none

structure Inv (X : Cx) (pins : List (Addr × Obj)) (σ : List (Option V)) (H : Hp) (s : Shared) : Prop where
  ok : X.Ok
  os : s.os = X.s₀.os
  bare : AllBare s.gens
  base : Un X.fs X.ex X.H₀ H X.s₀.heap s.heap
  loc : ∃ m, s.heap.Ns X.env.locals m ∧ ∀ (i : Nat) (x : Str) (v : V), X.N[i]? = some x → σ[i]? = some (some v) → Vis X.env.scope x → ∃ u, RelV v u ∧ Look X.env s.heap m x u
  cell : ∀ x c, X.env.cells.lookup x = some c → ∃ v, s.heap.IsCell c v
  free : H X.env.locals = none
  freeC : ∀ x c, X.env.cells.lookup x = some c → H c = none
  pin : ∀ p ∈ X.pn ++ pins, s.heap.get? p.1 = some p.2 ∧ H p.1 = none ∧ p.1 ≠ X.env.locals ∧ p.1 ∉ X.fs ∧ ∀ v, p.2.data ≠ .cell v
  hok : HOk X.prog X.w H s.heap
  len : σ.length = X.N.length

section
variable {X : Cx} {pins : List (Addr × Obj)} {σ : List (Option V)} {H H' : Hp} {s : Shared} {h' : Heap}

theorem Cx.Ok.nofr (ok : X.Ok) {b : Addr} {o : Obj} (e : X.base.get? b = some o) : b ∉ X.fs := fun hb => by
  have := (ok.funs.mem hb).1
  rw [e] at this; cases this
theorem Inv.bs (I : Inv X pins σ H s) : ∀ b o, X.base.get? b = some o → s.heap.get? b = some o ∧ H b = none := fun b o e =>
  ⟨I.base.keep b o (I.ok.bs b o e).1 (I.ok.bs b o e).2 (I.ok.nofr e) (I.ok.noex b o e), I.base.free b o (I.ok.bs b o e).1 (I.ok.bs b o e).2 (I.ok.noex b o e)⟩
theorem Inv.bk (I : Inv X pins σ H s) : ∀ b o, X.base.get? b = some o → s.heap.get? b = some o := fun b o e => (I.bs b o e).1
theorem Inv.mod (I : Inv X pins σ H s) : Mod X.K X.mg X.base := I.ok.mod
theorem Inv.kIn (I : Inv X pins σ H s) : X.K.In s.heap := I.ok.mod.kin.keeps I.bk
theorem Inv.nolimit (I : Inv X pins σ H s) : s.heap.NoLimit := I.ok.mod.nolimit.keeps I.bk
theorem Inv.lt (I : Inv X pins σ H s) : X.env.locals < s.heap.objs.size := let ⟨_, hn, _⟩ := I.loc; hn.lt
theorem Inv.sz (I : Inv X pins σ H s) : X.s₀.heap.objs.size ≤ s.heap.objs.size := Nat.le_trans I.ok.above (Nat.le_of_lt I.lt)
theorem Inv.nofs (I : Inv X pins σ H s) {a : Addr} (h : s.heap.objs.size ≤ a) : a ∉ X.fs := fun hb => by
  obtain ⟨_, o, ho, _⟩ := I.ok.funs.mem hb
  exact absurd (Nat.lt_of_lt_of_le (Heap.lt_size ho) (Nat.le_trans I.sz h)) (Nat.lt_irrefl _)
theorem Inv.cne (I : Inv X pins σ H s) : ∀ x c, X.env.cells.lookup x = some c → c ≠ X.env.locals := fun x c e z => by
  obtain ⟨v, o, ho, hd⟩ := I.cell x c e
  obtain ⟨m, ⟨o', es, ep, ho', hd', _⟩, _⟩ := I.loc
  rw [z, ho'] at ho; cases ho; rw [hd'] at hd; cases hd
theorem Inv.funs (I : Inv X pins σ H s) : s.heap.FunFrames X.base X.outer := by
  have all : ∀ (l : List Env), (∀ b ∈ frs l, b ∈ X.fs) → X.s₀.heap.FunFrames X.base l → s.heap.FunFrames X.base l := by
    intro l
    induction l with
    | nil => intro _ _; trivial
    | cons env r ih =>
      intro hs hl
      obtain ⟨hk, ⟨L, o, hf, hn, ho, hd⟩, hr⟩ := hl
      have hL : L ∈ X.fs := hs L (by unfold frs; rw [List.filterMap_cons, hf]; exact List.mem_cons_self)
      obtain ⟨sl, e⟩ := I.base.slot L o ho (I.ok.frf L hL) hL fun z => I.ok.exfs L z hL
      exact ⟨hk, ⟨L, _, hf, hn, e, hd⟩, ih (fun b hb => hs b (by unfold frs; rw [List.filterMap_cons, hf]; exact List.mem_cons_of_mem _ hb)) hr⟩
  exact all X.outer (fun _ hb => hb) I.ok.funs

theorem Inv.stack (I : Inv X pins σ H s) : s.heap.FunFrames X.base X.stack := by
  rcases I.ok.stk with e | ⟨e, hf⟩
  · rw [e]; exact I.funs
  · rw [e]
    obtain ⟨m, hn, _⟩ := I.loc
    refine .cons (by rw [I.ok.kind]; decide) hf hn ?_ I.funs
    exact Heap.get?_none_of_le (Nat.le_trans I.ok.bsz I.ok.above)
theorem Inv.stkSub (I : Inv X pins σ H s) : ∀ b ∈ frs X.stack, b ∈ X.env.locals :: X.fs := fun b hb => by
  rcases I.ok.stk with e | ⟨e, hf⟩
  · rw [e] at hb; exact List.mem_cons_of_mem _ hb
  · rw [e] at hb
    unfold frs at hb
    rw [List.filterMap_cons, hf] at hb
    exact hb
theorem Inv.stkFree (I : Inv X pins σ H s) : ∀ b ∈ frs X.stack, H b = none := fun b hb => by
  rcases List.mem_cons.mp (I.stkSub b hb) with e | hb
  · rw [e]; exact I.free
  · obtain ⟨_, o, ho, _⟩ := I.ok.funs.mem hb
    exact I.base.free b o ho (I.ok.frf b hb) fun z => I.ok.exfs b z hb

theorem Inv.step {g' : Array GenState} {t' : Nat} {d' : Drawn} {ch : List Addr} (I : Inv X pins σ H s)
    (hch : ∀ b ∈ ch, (b ∈ X.ex ∨ X.s₀.heap.objs.size ≤ b) ∧ b ≠ X.env.locals ∧ (∀ x c, X.env.cells.lookup x = some c → c ≠ b) ∧ ∀ p ∈ X.pn ++ pins, p.1 ≠ b)
    (keep : ∀ b o, b ≠ X.env.locals → b ∉ X.fs → b ∉ ch → s.heap.get? b = some o → H b = none → h'.get? b = some o)
    (slot : ∀ b o, b ≠ X.env.locals → b ∈ X.fs → b ∉ ch → s.heap.get? b = some o → H b = none → ∃ sl, h'.get? b = some { o with slots := sl }) (free : ∀ b o, b ∉ ch → s.heap.get? b = some o → H b = none → H' b = none)
    (there : ∀ b o, b ∉ ch → s.heap.get? b = some o → ∃ o', h'.get? b = some o')
    (tups : ∀ b xs, H b = some (.tup xs) → H' b = some (.tup xs)) (frzs : ∀ b o u, H b = some (.frz o u) → H' b = some (.frz o u)) (tbls : ∀ b ps, H b = some (.tbl ps) → ∃ more, H' b = some (.tbl (ps ++ more)))
    (ns : ∀ m, s.heap.Ns X.env.locals m → h'.Ns X.env.locals m) (hok : HOk X.prog X.w H' h') (hg : AllBare g') :
    Inv X pins σ H' { s with heap := h', gens := g', drawn := d', toks := t' } := by
  have neL : ∀ b o, X.s₀.heap.get? b = some o → b ≠ X.env.locals := fun b o e => Nat.ne_of_lt (Nat.lt_of_lt_of_le (Heap.lt_size e) I.ok.above)
  have neC : ∀ b o, X.s₀.heap.get? b = some o → b ∉ X.ex → b ∉ ch := fun b o e hx hb => by
    rcases (hch b hb).1 with z | z
    · exact hx z
    · exact absurd (Nat.lt_of_lt_of_le (Heap.lt_size e) z) (Nat.lt_irrefl _)
  have cellK : ∀ x c, X.env.cells.lookup x = some c → ∀ v, s.heap.IsCell c v → h'.IsCell c v := fun x c e v ⟨o, ho, hd⟩ => by
    have nch : c ∉ ch := fun z => (hch c z).2.2.1 x c e rfl
    by_cases hc : c ∈ X.fs
    · obtain ⟨sl, q⟩ := slot c o (I.cne x c e) hc nch ho (I.freeC x c e)
      exact ⟨_, q, hd⟩
    · exact ⟨o, keep c o (I.cne x c e) hc nch ho (I.freeC x c e), hd⟩
  refine ⟨I.ok, I.os, hg, ⟨fun b o e n hb hx => ?_, fun b o e n hb hx => ?_, fun b o e n hx => ?_, fun b o e hx => ?_, fun b xs e => tups b xs (I.base.tups b xs e), fun b o xs e => frzs b o xs (I.base.frzs b o xs e), fun b ps e => ?_⟩, ?_, fun x c e => ?_, ?_, fun x c e => ?_, fun p hp => ?_, hok, I.len⟩
  · exact keep b o (neL b o e) hb (neC b o e hx) (I.base.keep b o e n hb hx) (I.base.free b o e n hx)
  · obtain ⟨sl, e1⟩ := I.base.slot b o e n hb hx
    obtain ⟨sl', e2⟩ := slot b _ (neL b o e) hb (neC b o e hx) e1 (I.base.free b o e n hx)
    exact ⟨sl', e2⟩
  · obtain ⟨o', e1⟩ := I.base.there b o e hx
    exact free b o' (neC b o e hx) e1 (I.base.free b o e n hx)
  · obtain ⟨o', e1⟩ := I.base.there b o e hx
    exact there b o' (neC b o e hx) e1
  · obtain ⟨m1, e1⟩ := I.base.tbls b ps e
    obtain ⟨m2, e2⟩ := tbls b _ e1
    exact ⟨m1 ++ m2, by rw [e2, Array.append_assoc]⟩
  · obtain ⟨m, hn, hl⟩ := I.loc
    refine ⟨m, ns m hn, fun i x v e1 e2 e3 => ?_⟩
    obtain ⟨u, r, l⟩ := hl i x v e1 e2 e3
    refine ⟨u, r, ?_⟩
    rcases l with l | ⟨k, c, e, z⟩
    · exact .inl l
    · exact .inr ⟨k, c, e, cellK x c e _ z⟩
  · obtain ⟨v, z⟩ := I.cell x c e
    exact ⟨v, cellK x c e v z⟩
  · obtain ⟨m, ⟨o, _, _, ho, _⟩, _⟩ := I.loc
    exact free _ o (fun z => (hch _ z).2.1 rfl) ho I.free
  · obtain ⟨v, o, ho, hd⟩ := I.cell x c e
    exact free c o (fun z => (hch c z).2.2.1 x c e rfl) ho (I.freeC x c e)
  · obtain ⟨e, n, ne, nf, d⟩ := I.pin p hp
    have nch : p.1 ∉ ch := fun z => (hch p.1 z).2.2.2 p hp rfl
    exact ⟨keep p.1 p.2 ne nf nch e n, free p.1 p.2 nch e n, ne, nf, d⟩
theorem Inv.un {t' : Nat} (I : Inv X pins σ H s) (u : Un X.fs [] H H' s.heap h') (hok : HOk X.prog X.w H' h') : Inv X pins σ H' { s with heap := h', toks := t' } := by
  obtain ⟨m, ⟨o, es, ep, ho, r⟩, _⟩ := id I.loc
  obtain ⟨sl, hL⟩ := u.any ho I.free (by simp)
  exact I.step (g' := s.gens) (d' := s.drawn) (ch := []) (fun _ z => nomatch z) (fun b o _ hb _ e n => u.keep b o e n hb (by simp)) (fun b o _ hb _ e n => u.slot b o e n hb (by simp)) (fun b o _ e n => u.free b o e n (by simp)) (fun b o _ e => u.there b o e (by simp)) u.tups u.frzs u.tbls (fun m' hm => by
    obtain ⟨o', es', ep', ho', r'⟩ := hm
    rw [ho] at ho'; cases ho'
    exact ⟨_, es', ep', hL, r'⟩) hok I.bare
theorem Inv.call {g' : Array GenState} {t' : Nat} {d' : Drawn} {ch : List Addr} (I : Inv X pins σ H s) (u : Un (frs X.stack) ch H H' s.heap h') (hok : HOk X.prog X.w H' h') (hg : AllBare g')
    (hch : ∀ b ∈ ch, (b ∈ X.ex ∨ X.s₀.heap.objs.size ≤ b) ∧ b ≠ X.env.locals ∧ (∀ x c, X.env.cells.lookup x = some c → c ≠ b) ∧ ∀ p ∈ X.pn ++ pins, p.1 ≠ b) :
    Inv X pins σ H' { s with heap := h', gens := g', drawn := d', toks := t' } := by
  obtain ⟨m, ⟨o, es, ep, ho, r⟩, _⟩ := id I.loc
  obtain ⟨sl, hL⟩ := u.any ho I.free fun z => (hch _ z).2.1 rfl
  exact I.step (ch := ch) hch (fun b o hL hb hc e n => u.keep b o e n (fun z => (List.mem_cons.mp (I.stkSub b z)).elim hL hb) hc) (fun b o _ _ hc e n => u.any e n hc) (fun b o hc e n => u.free b o e n hc) (fun b o hc e => u.there b o e hc) u.tups u.frzs u.tbls (fun m' hm => by
    obtain ⟨o', es', ep', ho', r'⟩ := hm
    rw [ho] at ho'; cases ho'
    exact ⟨_, es', ep', hL, r'⟩) hok hg
theorem Inv.turned {t' : Nat} {it : Addr} (I : Inv X pins σ H s) (k : ∀ b o, b ≠ it → s.heap.get? b = some o → h'.get? b = some o) (hn : H it = none) (hL : it ≠ X.env.locals)
    (h1 : it ∈ X.ex ∨ X.s₀.heap.objs.size ≤ it) (h2 : ∀ x c, X.env.cells.lookup x = some c → c ≠ it) (h3 : ∀ p ∈ X.pn ++ pins, p.1 ≠ it) : Inv X pins σ H { s with heap := h', toks := t' } := by
  have nit : ∀ b u, H b = some u → b ≠ it := fun b u e z => by rw [z, hn] at e; cases e
  refine I.step (g' := s.gens) (d' := s.drawn) (ch := [it]) (fun b hb => ?_) (fun b o _ _ hc e _ => k b o (fun z => hc (by simp [z])) e) (fun b o _ _ hc e _ => ⟨o.slots, k b o (fun z => hc (by simp [z])) e⟩) (fun _ _ _ _ n => n)
    (fun b o hc e => ⟨o, k b o (fun z => hc (by simp [z])) e⟩) (fun _ _ e => e) (fun _ _ _ e => e) (fun b ps e => ⟨#[], by rw [e]; simp⟩) (fun m hm => ?_) (fun b u e => ?_) I.bare
  · have e : b = it := by simpa using hb
    subst e
    exact ⟨h1, hL, h2, h3⟩
  · obtain ⟨o, es, ep, ho, r⟩ := hm
    exact ⟨o, es, ep, k _ o (Ne.symm hL) ho, r⟩
  · refine (I.hok b u e).stay (fun c v hc q => k c v ?_ q) (fun _ q => q) fun _ _ q => q
    rcases hc with z | z
    · rw [z]; exact nit b u e
    · exact nit c _ z
theorem Inv.tok (I : Inv X pins σ H s) (t : Nat) : Inv X pins σ H { s with toks := t } := I.un (h' := s.heap) (t' := t) Un.refl I.hok
theorem Inv.kept {t' : Nat} (I : Inv X pins σ H s) (k : ∀ b u, s.heap.get? b = some u → h'.get? b = some u) : Inv X pins σ H { s with heap := h', toks := t' } := I.un (Un.kept k) (I.hok.kept k)
theorem Inv.laid {a : Addr} {o : HO} {t' : Nat} (I : Inv X pins σ H s) (k : ∀ b u, s.heap.get? b = some u → h'.get? b = some u) (hp : s.heap.objs.size ≤ a) (new : ObjOk X.prog X.w (upd H a o) h' a o) :
    Inv X pins σ (upd H a o) { s with heap := h', toks := t' } := I.un (Un.laid k hp (I.hok.fresh hp)) (I.hok.laid k hp new)
theorem Inv.write {x e : Addr} {o : HO} {t' : Nat} (I : Inv X pins σ H s) (mu : Mut (H x)) (he : e = x ∨ H e = some (.own x)) (k : ∀ b u, b ≠ e → s.heap.get? b = some u → h'.get? b = some u) (heo : ∃ u, h'.get? e = some u)
    (new : ObjOk X.prog X.w (upd H x o) h' x o) : Inv X pins σ (upd H x o) { s with heap := h', toks := t' } := I.un (Un.write mu he k heo) (I.hok.write mu he k heo new)
theorem Inv.pins_of {pins' : List (Addr × Obj)} (I : Inv X pins σ H s) (h : ∀ p ∈ pins', s.heap.get? p.1 = some p.2 ∧ H p.1 = none ∧ p.1 ≠ X.env.locals ∧ p.1 ∉ X.fs ∧ ∀ v, p.2.data ≠ .cell v) : Inv X pins' σ H s :=
  ⟨I.ok, I.os, I.bare, I.base, I.loc, I.cell, I.free, I.freeC, fun p hp => (List.mem_append.mp hp).elim (fun z => I.pin p (List.mem_append_left _ z)) (h p), I.hok, I.len⟩

theorem nodup_ix {N : List Str} (hN : N.Nodup) {i j : Nat} {x : Str} (a : N[i]? = some x) (b : N[j]? = some x) : i = j := by
  obtain ⟨h1, e1⟩ := List.getElem?_eq_some_iff.mp a
  obtain ⟨h2, e2⟩ := List.getElem?_eq_some_iff.mp b
  exact (List.getElem_inj hN).mp (e1.trans e2.symm)

theorem store_ok2 {M : Model} {A : Around} {E : Value → Shared → Prop} {i : Nat} {x : Str} {v : V} {u : Value} {Q : Unit → Shared → Prop} (I : Inv X pins σ H s) (hN : X.N.Nodup) (hi : X.N[i]? = some x) (hx : Loc X.env.scope x) (r : RelV v u)
    (h : ∀ s', Inv X pins (σ.set i (some v)) H s' → (∃ a, Heap.SameBut a s.heap s'.heap ∧ (a = X.env.locals ∨ X.env.cells.lookup x = some a)) → Q () s') (hf : X.fn x = true ∨ X.env.scope.names.lookup x = some .local := by first | exact .inl rfl | exact .inr rfl | assumption) : wpAny M A (storeName X.env x u) Q E s := by
  obtain ⟨m, hn, hl⟩ := id I.loc
  have hcls : (X.env.scope.kind == .class || (X.env.scope.kind == .module && X.env.locals != X.env.globals)) = false := by rw [I.ok.kind]; rfl
  have hiσ : i < σ.length := by rw [I.len]; exact (List.getElem?_eq_some_iff.mp hi).1
  have cne := I.cne
  have tracked : ∀ {a : Addr} {h' : Heap}, (∃ o, s.heap.get? a = some o ∧ H a = none) → Heap.SameBut a s.heap h' → HOk X.prog X.w H h' := fun {a h'} ha hs b ob e => by
    obtain ⟨_, _, hfree⟩ := ha
    refine (I.hok b ob e).stay (fun c w' hc q => (hs.2 c ?_).trans q) (fun _ q => q) fun _ _ q => q
    rintro rfl
    rcases hc with rfl | hc
    · rw [hfree] at e; cases e
    · rw [hfree] at hc; cases hc
  rcases hx with hk | hk
  · refine wpAny_storeName_local hk hn (fun h' hn' hs => ?_) hcls
    obtain ⟨oL, _, _, hoL, _⟩ := id hn
    refine h _ ⟨I.ok, I.os, I.bare, ⟨fun b o e n hb hx => ?_, fun b o e n hb hx => ?_, I.base.free, fun b o e hx => ?_, I.base.tups, I.base.frzs, I.base.tbls⟩, ⟨_, hn', fun j y v' e1 e2 e3 => ?_⟩, fun y c e => ?_, I.free, I.freeC, fun p hp => ?_, tracked ⟨oL, hoL, I.free⟩ hs, by simpa using I.len⟩ ⟨_, hs, .inl rfl⟩
    · exact (hs.2 b (Nat.ne_of_lt (Nat.lt_of_lt_of_le (Heap.lt_size e) I.ok.above))).trans (I.base.keep b o e n hb hx)
    · obtain ⟨sl, e1⟩ := I.base.slot b o e n hb hx
      exact ⟨sl, (hs.2 b (Nat.ne_of_lt (Nat.lt_of_lt_of_le (Heap.lt_size e) I.ok.above))).trans e1⟩
    · obtain ⟨o', e1⟩ := I.base.there b o e hx
      exact ⟨o', (hs.2 b (Nat.ne_of_lt (Nat.lt_of_lt_of_le (Heap.lt_size e) I.ok.above))).trans e1⟩
    · by_cases hj : j = i
      · subst hj
        rw [hi] at e1; cases e1
        rw [List.getElem?_set_self hiσ] at e2
        cases e2
        exact ⟨u, r, .inl ⟨hk, by simp⟩⟩
      · rw [List.getElem?_set_ne (Ne.symm hj)] at e2
        obtain ⟨u', r', q⟩ := hl j y v' e1 e2 e3
        refine ⟨u', r', ?_⟩
        rcases q with ⟨k, e⟩ | ⟨k, c, e, z⟩
        · refine .inl ⟨k, ?_⟩
          have : y ≠ x := fun e => hj (nodup_ix hN e1 (e ▸ hi))
          simp [this, e]
        · exact .inr ⟨k, c, e, z.sameBut hs (cne y c e)⟩
    · obtain ⟨w', z⟩ := I.cell y c e
      exact ⟨w', z.sameBut hs (cne y c e)⟩
    · obtain ⟨e, n, ne, nf, d⟩ := I.pin p hp
      exact ⟨(hs.2 p.1 ne).trans e, n, ne, nf, d⟩
  · have hfn : X.fn x = true := by
      rcases hf with z | z
      · exact z
      · rw [z] at hk; cases hk
    obtain ⟨c, hc⟩ := I.ok.has x (.inl hk)
    obtain ⟨w', z⟩ := I.cell x c hc
    refine wpAny_storeName_cell I.ok.kind hk hc z (fun h' hc' hs => ?_)
    obtain ⟨oc, hoc, hocd⟩ := id z
    refine h { s with heap := h' } ⟨I.ok, I.os, I.bare, ⟨fun b o e n hb hx => ?_, fun b o e n hb hx => ?_, I.base.free, fun b o e hx => ?_, I.base.tups, I.base.frzs, I.base.tbls⟩, ⟨m, hn.sameBut hs (Ne.symm (cne x c hc)), fun j y v' e1 e2 e3 => ?_⟩, fun y c' e => ?_, I.free, I.freeC, fun p hp => ?_, tracked ⟨oc, hoc, I.freeC x c hc⟩ hs, by simpa using I.len⟩ ⟨c, hs, .inr hc⟩
    · exact (hs.2 b (Nat.ne_of_lt (Nat.lt_of_lt_of_le (Heap.lt_size e) (I.ok.cab x c hfn hc)))).trans (I.base.keep b o e n hb hx)
    · obtain ⟨sl, e1⟩ := I.base.slot b o e n hb hx
      exact ⟨sl, (hs.2 b (Nat.ne_of_lt (Nat.lt_of_lt_of_le (Heap.lt_size e) (I.ok.cab x c hfn hc)))).trans e1⟩
    · obtain ⟨o', e1⟩ := I.base.there b o e hx
      exact ⟨o', (hs.2 b (Nat.ne_of_lt (Nat.lt_of_lt_of_le (Heap.lt_size e) (I.ok.cab x c hfn hc)))).trans e1⟩
    · by_cases hj : j = i
      · subst hj
        rw [hi] at e1; cases e1
        rw [List.getElem?_set_self hiσ] at e2
        cases e2
        exact ⟨u, r, .inr ⟨.inl hk, c, hc, hc'⟩⟩
      · rw [List.getElem?_set_ne (Ne.symm hj)] at e2
        obtain ⟨u', r', q⟩ := hl j y v' e1 e2 e3
        refine ⟨u', r', ?_⟩
        rcases q with q | ⟨k, c', e, z'⟩
        · exact .inl q
        · refine .inr ⟨k, c', e, z'.sameBut hs ?_⟩
          rintro rfl
          exact hj (nodup_ix hN e1 (I.ok.inj _ _ _ e hc ▸ hi))
    · by_cases hcc : c' = c
      · subst hcc; exact ⟨_, hc'⟩
      · obtain ⟨w2, z2⟩ := I.cell y c' e
        exact ⟨w2, z2.sameBut hs hcc⟩
    · obtain ⟨e, n, ne, nf, d⟩ := I.pin p hp
      refine ⟨(hs.2 p.1 ?_).trans e, n, ne, nf, d⟩
      intro q
      rw [q, hoc] at e
      have q' : oc = p.2 := Option.some.inj e
      exact d w' (by rw [← q']; exact hocd)
theorem store_ok {M : Model} {A : Around} {E : Value → Shared → Prop} {i : Nat} {x : Str} {v : V} {u : Value} {Q : Unit → Shared → Prop} (I : Inv X pins σ H s) (hN : X.N.Nodup) (hi : X.N[i]? = some x) (hx : Loc X.env.scope x) (r : RelV v u)
    (h : ∀ s', Inv X pins (σ.set i (some v)) H s' → Q () s') (hf : X.fn x = true ∨ X.env.scope.names.lookup x = some .local := by first | exact .inl rfl | exact .inr rfl | assumption) : wpAny M A (storeName X.env x u) Q E s :=
  store_ok2 I hN hi hx r (fun s' I' _ => h s' I') hf
theorem Inv.call' {s' : Shared} {ch : List Addr} (I : Inv X pins σ H s) (ho : s'.os = s.os) (u : Un (frs X.stack) ch H H' s.heap s'.heap) (hok : HOk X.prog X.w H' s'.heap) (hg : AllBare s'.gens)
    (hch : ∀ b ∈ ch, (b ∈ X.ex ∨ X.s₀.heap.objs.size ≤ b) ∧ b ≠ X.env.locals ∧ (∀ x c, X.env.cells.lookup x = some c → c ≠ b) ∧ ∀ p ∈ X.pn ++ pins, p.1 ≠ b) : Inv X pins σ H' s' := by
  obtain ⟨h', g', d', t', o'⟩ := s'
  have e : o' = s.os := ho
  subst e
  exact I.call (g' := g') (t' := t') (d' := d') u hok hg hch
end

noncomputable abbrev XK := Value → Option Addr → Hp → Prop
noncomputable abbrev St := List (Option V)
noncomputable abbrev VK := V → Hp → Prop
noncomputable abbrev TE := St → Hp → VK → Prop
noncomputable abbrev TT := St → Hp → (Bool → Hp → Prop) → Prop
noncomputable abbrev TA := St → Hp → (List V → Hp → Prop) → Prop
structure Ends where
  nx : St → Hp → Prop
  rt : VK
  bk : St → Hp → Prop := fun _ _ => False
  ct : St → Hp → Prop := fun _ _ => False
noncomputable abbrev TS := Ends → St → Hp → Prop

inductive I_EP (X : Cx) (pins : List (Addr × Obj)) (σ : St) (Q : VK) (u : Value) (s' : Shared) : Prop
  | mk (v : _) (H' : _) (q0 : Inv X pins σ H' s') (q1 : RelV v u) (q2 : Q v H') : I_EP X pins σ Q u s'
noncomputable def EP (X : Cx) (pins : List (Addr × Obj)) (σ : St) (Q : VK) (u : Value) (s' : Shared) : Prop := I_EP X pins σ Q u s'
noncomputable def TP (X : Cx) (pins : List (Addr × Obj)) (σ : St) (Q : Bool → Hp → Prop) (b : Bool) (s' : Shared) : Prop := ∃ H', Inv X pins σ H' s' ∧ Q b H'
inductive I_AP (X : Cx) (pins : List (Addr × Obj)) (σ : St) (Q : List V → Hp → Prop) (us : List Value) (s' : Shared) : Prop
  | mk (vs : _) (H' : _) (q0 : Inv X pins σ H' s') (q1 : Vals vs us) (q2 : Q vs H') : I_AP X pins σ Q us s'
noncomputable def AP (X : Cx) (pins : List (Addr × Obj)) (σ : St) (Q : List V → Hp → Prop) (us : List Value) (s' : Shared) : Prop := I_AP X pins σ Q us s'
noncomputable def SP (X : Cx) (pins : List (Addr × Obj)) (D : Ends) (f : Flow) (s' : Shared) : Prop :=
  match f with
  | .next => ∃ σ' H', Inv X pins σ' H' s' ∧ D.nx σ' H'
  | .brk => ∃ σ' H', Inv X pins σ' H' s' ∧ D.bk σ' H'
  | .cont => ∃ σ' H', Inv X pins σ' H' s' ∧ D.ct σ' H'
  | .ret u => ∃ v σ' H', Inv X pins σ' H' s' ∧ RelV v u ∧ D.rt v H'

structure PE (X : Cx) (e : Expr) (t : TE) : Prop where
  run :
    ∀ (pins : List (Addr × Obj)) (s : Shared) (σ : St) (H : Hp) (Q : VK), Inv X pins σ H s → t σ H Q → wpAny (model X.prog X.w) X.A (eval e X.env) (EP X pins σ Q) X.xe s
instance {X : Cx} {e : Expr} {t : TE} : CoeFun (PE X e t) (fun _ =>
  ∀ (pins : List (Addr × Obj)) (s : Shared) (σ : St) (H : Hp) (Q : VK), Inv X pins σ H s → t σ H Q → wpAny (model X.prog X.w) X.A (eval e X.env) (EP X pins σ Q) X.xe s) := ⟨fun h => h.run⟩
structure PT (X : Cx) (e : Expr) (t : TT) : Prop where
  run :
    ∀ (pins : List (Addr × Obj)) (s : Shared) (σ : St) (H : Hp) (Q : Bool → Hp → Prop), Inv X pins σ H s → t σ H Q → wpAny (model X.prog X.w) X.A (isTrue e X.env (eval e X.env)) (TP X pins σ Q) X.xe s
instance {X : Cx} {e : Expr} {t : TT} : CoeFun (PT X e t) (fun _ =>
  ∀ (pins : List (Addr × Obj)) (s : Shared) (σ : St) (H : Hp) (Q : Bool → Hp → Prop), Inv X pins σ H s → t σ H Q → wpAny (model X.prog X.w) X.A (isTrue e X.env (eval e X.env)) (TP X pins σ Q) X.xe s) := ⟨fun h => h.run⟩
structure PW (X : Cx) (e : Expr) (t : TT) : Prop where
  run :
    ∀ (whole : Sem Value) (pins : List (Addr × Obj)) (s : Shared) (σ : St) (H : Hp) (Q : Bool → Hp → Prop), Inv X pins σ H s → t σ H Q → wpAny (model X.prog X.w) X.A (isTrue e X.env whole) (TP X pins σ Q) X.xe s
instance {X : Cx} {e : Expr} {t : TT} : CoeFun (PW X e t) (fun _ =>
  ∀ (whole : Sem Value) (pins : List (Addr × Obj)) (s : Shared) (σ : St) (H : Hp) (Q : Bool → Hp → Prop), Inv X pins σ H s → t σ H Q → wpAny (model X.prog X.w) X.A (isTrue e X.env whole) (TP X pins σ Q) X.xe s) := ⟨fun h => h.run⟩
theorem PW.pt {X : Cx} {e : Expr} {t : TT} (h : PW X e t) : PT X e t := ⟨h.run _⟩
structure PA (X : Cx) (es : List Expr) (t : TA) : Prop where
  run :
    ∀ (pos : Pos) (pins : List (Addr × Obj)) (s : Shared) (σ : St) (H : Hp) (Q : List V → Hp → Prop), Inv X pins σ H s → t σ H Q → wpAny (model X.prog X.w) X.A (spliced (backTo pos (starEach es X.env))) (AP X pins σ Q) X.xe s
instance {X : Cx} {es : List Expr} {t : TA} : CoeFun (PA X es t) (fun _ =>
  ∀ (pos : Pos) (pins : List (Addr × Obj)) (s : Shared) (σ : St) (H : Hp) (Q : List V → Hp → Prop), Inv X pins σ H s → t σ H Q → wpAny (model X.prog X.w) X.A (spliced (backTo pos (starEach es X.env))) (AP X pins σ Q) X.xe s) := ⟨fun h => h.run⟩
structure PS (X : Cx) (st : Stmt) (t : TS) : Prop where
  run :
    ∀ (pins : List (Addr × Obj)) (s : Shared) (σ : St) (H : Hp) (D : Ends), Inv X pins σ H s → t D σ H → wpAny (model X.prog X.w) X.A (exec st X.env) (SP X pins D) X.xe s
instance {X : Cx} {st : Stmt} {t : TS} : CoeFun (PS X st t) (fun _ =>
  ∀ (pins : List (Addr × Obj)) (s : Shared) (σ : St) (H : Hp) (D : Ends), Inv X pins σ H s → t D σ H → wpAny (model X.prog X.w) X.A (exec st X.env) (SP X pins D) X.xe s) := ⟨fun h => h.run⟩
structure PSs (X : Cx) (st : List Stmt) (t : TS) : Prop where
  run :
    ∀ (pins : List (Addr × Obj)) (s : Shared) (σ : St) (H : Hp) (D : Ends), Inv X pins σ H s → t D σ H → wpAny (model X.prog X.w) X.A (execs st X.env) (SP X pins D) X.xe s
instance {X : Cx} {st : List Stmt} {t : TS} : CoeFun (PSs X st t) (fun _ =>
  ∀ (pins : List (Addr × Obj)) (s : Shared) (σ : St) (H : Hp) (D : Ends), Inv X pins σ H s → t D σ H → wpAny (model X.prog X.w) X.A (execs st X.env) (SP X pins D) X.xe s) := ⟨fun h => h.run⟩
theorem thn {α : Type} {t : Sem α} {Q Q' : α → Shared → Prop} {M : Model} {A : Around} {E : Value → Shared → Prop} {s : Shared} (h : wpAny M A t Q E s) (hQ : ∀ a s, Q a s → Q' a s) : wpAny M A t Q' E s := wpAny_mono h hQ fun _ _ x => x
end L2

namespace L2
open PySem PySem.Spec PyProof.Rows
section
variable {X : Cx}

inductive I_tVar (i : Nat) (σ : St) (H : Hp) (Q : VK) : Prop
  | mk (v : _) (q0 : σ[i]? = some (some v)) (q1 : Q v H) : I_tVar i σ H Q
noncomputable def tVar (i : Nat) : TE := fun σ H Q => I_tVar i σ H Q
noncomputable def tC (v : V) : TE := fun _ H Q => Q v H
theorem pe_var {i : Nat} {x : Str} {pos : Pos} (hN : X.N[i]? = some x) (hv : Vis X.env.scope x) (hd : (x == ("__debug__" : Str)) = false := by decide) (hcd : (x == ("__classdict__" : Str)) = false := by decide) : PE X (.Name x pos) (tVar i) := by
  constructor
  intro pins s σ H Q I h
  obtain ⟨v, e, h⟩ := h
  obtain ⟨m, hn, hl⟩ := I.loc
  obtain ⟨u, r, l⟩ := hl i x v hN e hv
  have fin : EP X pins σ Q u s := ⟨v, H, I, r, h⟩
  rcases l with ⟨hk, hm⟩ | ⟨hk, c, hc, hcell⟩
  · exact wpAny_Name (wpAny_loadName_local I.ok.kind hk hn hm fin) hd
  · rcases hk with hk | hk
    · exact wpAny_Name (wpAny_loadName_cell I.ok.kind hk hc hcell fin) hd
    · exact wpAny_Name (wpAny_loadName_free I.ok.kind hk hc hcell fin hcd) hd
theorem pe_int {i j pos} : PE X (.Constant (.int i) j pos) (tC (.int i)) := ⟨fun _ _ _ H _ I h => wpAny_Constant_int ⟨.int i, H, I.tok _, ⟨_, rfl⟩, h⟩⟩
theorem pe_bl {b j pos} : PE X (.Constant (.bool b) j pos) (tC (.bl b)) := ⟨fun _ _ _ H _ I h => Constant_bool ⟨.bl b, H, I, rfl, h⟩⟩
theorem pe_non {j pos} : PE X (.Constant .none j pos) (tC .non) := ⟨fun _ _ _ H _ I h => Constant_none ⟨.non, H, I, rfl, h⟩⟩
theorem pe_str {x j pos} : PE X (.Constant (.str x) j pos) (tC (.str x)) := ⟨fun _ _ _ H _ I h => Calls.Constant_str ⟨.str x, H, I.tok _, ⟨_, rfl⟩, h⟩⟩

noncomputable def Gl (X : Cx) (x : Str) : Prop := X.env.kindOf x = some .globalImplicit
theorem ld_glob {E : Value → Shared → Prop} {pins : List (Addr × Obj)} {s : Shared} {σ : St} {H : Hp} {x : Str} {u : Value} {pos : Pos} {Q : Value → Shared → Prop} (I : Inv X pins σ H s) (hg : Gl X x) (hm : X.mg x = some u) (h : Q u s)
    (hd : (x == ("__debug__" : Str)) = false := by decide) : wpAny (model X.prog X.w) X.A (eval (.Name x pos) X.env) Q E s :=
  Calls.Name_function_global I.ok.kind hg (Calls.loadGlobal_global (by rw [I.ok.glob]; exact I.mod.glob.keeps I.bk) hm h) hd
theorem ld_blt {E : Value → Shared → Prop} {pins : List (Addr × Obj)} {s : Shared} {σ : St} {H : Hp} {x : Str} {u : Value} {pos : Pos} {Q : Value → Shared → Prop} (I : Inv X pins σ H s) (hg : Gl X x) (hm : X.mg x = none) (hv : bootBuiltins x = some u) (h : Q u s)
    (hn : x ≠ "__name__" := by decide) (hd : (x == ("__debug__" : Str)) = false := by decide) : wpAny (model X.prog X.w) X.A (eval (.Name x pos) X.env) Q E s := by
  obtain ⟨mb, h1, h2⟩ := I.mod.blt
  exact Calls.Name_function_global I.ok.kind hg (Calls.loadGlobal_builtin (by rw [I.ok.glob]; exact I.mod.glob.keeps I.bk) hm (by rw [I.ok.blt]; exact h1.keeps I.bk) ((h2 x hn).trans hv) h) hd
theorem pe_glob {x : Str} {v : V} {u : Value} {pos : Pos} (hg : Gl X x) (hm : X.mg x = some u) (r : RelV v u) (hd : (x == ("__debug__" : Str)) = false := by decide) : PE X (.Name x pos) (tC v) :=
  ⟨fun _ _ _ H _ I h => ld_glob I hg hm ⟨v, H, I, r, h⟩ hd⟩
theorem pe_bltn {x : Str} {v : V} {u : Value} {pos : Pos} (hg : Gl X x) (hm : X.mg x = none) (hv : bootBuiltins x = some u) (r : RelV v u) (hn : x ≠ "__name__" := by decide) (hd : (x == ("__debug__" : Str)) = false := by decide) : PE X (.Name x pos) (tC v) :=
  ⟨fun _ _ _ H _ I h => ld_blt I hg hm hv ⟨v, H, I, r, h⟩ hn hd⟩

variable {a b : Expr} {ta tb : TE} {pos : Pos}
structure PC (X : Cx) (op : CmpOp) (a b : Expr) (t : TE) : Prop where
  run :
    ∀ (pins : List (Addr × Obj)) (s : Shared) (σ : St) (H : Hp) (Q : VK), Inv X pins σ H s → t σ H Q →
      wpAny (model X.prog X.w) X.A (eval a X.env) (fun v s₁ => wpAny (model X.prog X.w) X.A (eval b X.env) (fun u s₂ => wpAny (model X.prog X.w) X.A (compareOp op v u) (EP X pins σ Q) X.xe s₂) X.xe s₁) X.xe s
instance {X : Cx} {op : CmpOp} {a b : Expr} {t : TE} : CoeFun (PC X op a b t) (fun _ =>
  ∀ (pins : List (Addr × Obj)) (s : Shared) (σ : St) (H : Hp) (Q : VK), Inv X pins σ H s → t σ H Q →
    wpAny (model X.prog X.w) X.A (eval a X.env) (fun v s₁ => wpAny (model X.prog X.w) X.A (eval b X.env) (fun u s₂ => wpAny (model X.prog X.w) X.A (compareOp op v u) (EP X pins σ Q) X.xe s₂) X.xe s₁) X.xe s) := ⟨fun h => h.run⟩
inductive As {α : Type} (f : α → V) (x : V) (Q : α → Prop) : Prop
  | mk (c : α) (h : x = f c) (q : Q c) : As f x Q
noncomputable def tB (t : TE) : TT := fun σ H Q => t σ H fun x H1 => As V.bl x fun c => Q c H1
theorem pt_val {e : Expr} {t : TE} (h : PE X e t) (he : ∀ whole, isTrue e X.env whole = (do let v ← whole; standAt e.pos; holding [v] (truthy v)) := by intro _; rfl) : PT X e (tB t) := by
  constructor
  intro pins s σ H Q I hw
  refine isTrue_plain (thn (h pins s σ H _ I hw) fun v s1 ⟨x, H1, I1, r1, q1⟩ => ?_) (he _)
  obtain ⟨d, rfl, q⟩ := q1
  cases r1
  exact wpAny_truthy_bool ⟨H1, I1, q⟩

variable {tA tB' : TT} {rest : List Expr}
noncomputable def tAnd (t u : TT) : TT := fun σ H Q => t σ H fun c H1 => if c = true then u σ H1 Q else Q false H1
noncomputable def tOr (t u : TT) : TT := fun σ H Q => t σ H fun c H1 => if c = true then Q true H1 else u σ H1 Q
noncomputable def tNot (t : TT) : TT := fun σ H Q => t σ H fun c H1 => Q (!c) H1
theorem pw_and1 (ha : PT X a tA) : PW X (.BoolOp .And [a] pos) tA := by
  constructor
  intro wh pins s σ H Q I h
  refine isTrue_and (thn (ha pins s σ H Q I h) fun c s1 e => ?_)
  cases c with
  | true => exact isTrue_and_nil e
  | false => exact e
theorem pw_or1 (ha : PT X a tA) : PW X (.BoolOp .Or [a] pos) tA := by
  constructor
  intro wh pins s σ H Q I h
  refine isTrue_or (thn (ha pins s σ H Q I h) fun c s1 e => ?_)
  cases c with
  | false => exact isTrue_or_nil e
  | true => exact e
theorem pw_and (ha : PT X a tA) (hb : PW X (.BoolOp .And (b :: rest) pos) tB') : PW X (.BoolOp .And (a :: b :: rest) pos) (tAnd tA tB') := by
  constructor
  intro wh pins s σ H Q I h
  refine isTrue_and (thn (ha pins s σ H _ I h) fun c s1 ⟨H1, I1, q1⟩ => ?_)
  cases c with
  | true => exact hb wh pins s1 σ H1 Q I1 q1
  | false => exact ⟨H1, I1, q1⟩
theorem pw_or (ha : PT X a tA) (hb : PW X (.BoolOp .Or (b :: rest) pos) tB') : PW X (.BoolOp .Or (a :: b :: rest) pos) (tOr tA tB') := by
  constructor
  intro wh pins s σ H Q I h
  refine isTrue_or (thn (ha pins s σ H _ I h) fun c s1 ⟨H1, I1, q1⟩ => ?_)
  cases c with
  | true => exact ⟨H1, I1, q1⟩
  | false => exact hb wh pins s1 σ H1 Q I1 q1
theorem pt_not (ha : PT X a tA) : PT X (.UnaryOp .Not a pos) (tNot tA) := by
  constructor
  intro pins s σ H Q I h
  exact isTrue_not (ha pins s σ H (fun c H1 => Q (!c) H1) I h)
noncomputable def tAndV (ta tb : TE) : TE := fun σ H Q => ta σ H fun x H1 => As V.bl x fun c => if c = true then tb σ H1 Q else Q (.bl false) H1
noncomputable def tNotV (ta : TE) : TE := fun σ H Q => ta σ H fun x H1 => As V.bl x fun c => Q (.bl (!c)) H1
theorem pe_one {op} {t : TE} (h : PE X a t) : PE X (.BoolOp op [a] pos) t := ⟨fun pins s σ H Q I hw => BoolOp_one (h pins s σ H Q I hw)⟩
theorem pe_and (ha : PE X a ta) (hb : PE X (.BoolOp .And (b :: rest) pos) tb) : PE X (.BoolOp .And (a :: b :: rest) pos) (tAndV ta tb) := by
  constructor
  intro pins s σ H Q I h
  refine BoolOp_and (thn (ha pins s σ H _ I h) fun v s1 ⟨x, H1, I1, r1, q1⟩ => ?_)
  obtain ⟨c, rfl, q1⟩ := q1
  cases r1
  refine wpAny_truthy_bool ?_
  cases c with
  | true => exact hb pins s1 σ H1 Q I1 q1
  | false => exact ⟨.bl false, H1, I1, rfl, q1⟩
theorem pe_not (ha : PE X a ta) : PE X (.UnaryOp .Not a pos) (tNotV ta) := by
  constructor
  intro pins s σ H Q I h
  refine UnaryOp_ (thn (ha pins s σ H _ I h) fun v s1 ⟨x, H1, I1, r1, q1⟩ => ?_)
  obtain ⟨c, rfl, q1⟩ := q1
  cases r1
  exact not_of (wpAny_truthy_bool ⟨.bl (!c), H1, I1, rfl, q1⟩)
noncomputable def tIf (t : TT) (ta tb : TE) : TE := fun σ H Q => t σ H fun c H1 => if c = true then ta σ H1 Q else tb σ H1 Q
theorem pe_ifExp {c : Expr} (hc : PT X c tA) (ha : PE X a ta) (hb : PE X b tb) : PE X (.IfExp c a b pos) (tIf tA ta tb) := by
  constructor
  intro pins s σ H Q I h
  refine wpAny_IfExp (thn (hc pins s σ H _ I h) fun d s1 ⟨H1, I1, q1⟩ => ?_)
  cases d with
  | true => exact ha pins s1 σ H1 Q I1 q1
  | false => exact hb pins s1 σ H1 Q I1 q1
end
end L2

namespace L2
open PySem PySem.Spec PyProof.Rows

noncomputable def SqL (K : PySem.W.Frag) (H : Hp) (a : Addr) (xs : List V) : Prop :=
  Rd H a (.lst xs) ∨
    ∃ (o : Obj) (its : Array Value) (n : Nat), K.lookup a = some o ∧ o.cls = .type "list" ∧ o.dict = none ∧ o.data = .seq its n ∧ its.size ≤ sizeLine ∧ Vals xs its.toList
noncomputable def SqT (K : PySem.W.Frag) (H : Hp) (a : Addr) (xs : List V) : Prop :=
  Rd H a (.tup xs) ∨
    ∃ (o : Obj) (its : Array Value) (n : Nat), K.lookup a = some o ∧ o.cls = .type "tuple" ∧ o.data = .seq its n ∧ its.size ≤ sizeLine ∧ Vals xs its.toList
noncomputable def absV : Value → Option V
  | .none => some .non
  | .bool b => some (.bl b)
  | .int i _ => some (.int i)
  | .str x _ => some (.str x)
  | .bytes b _ => some (.byt b)
  | .float b _ => some (.flt b)
  | .ref a => some (.ref a)
  | .type n => some (.ty n)
  | _ => none
theorem RelV.abs {x : V} {u : Value} (r : RelV x u) : absV u = some x := by
  cases x with
  | non => cases r; rfl
  | bl _ => cases r; rfl
  | int _ => obtain ⟨t, rfl⟩ := r; rfl
  | str _ => obtain ⟨t, rfl⟩ := r; rfl
  | byt _ => obtain ⟨t, rfl⟩ := r; rfl
  | flt _ => obtain ⟨t, rfl⟩ := r; rfl
  | ref _ => cases r; rfl
  | ty _ => cases r; rfl
theorem RelV.inj {x y : V} {u : Value} (r : RelV x u) (q : RelV y u) : x = y := Option.some.inj (r.abs.symm.trans q.abs)
theorem Vals.inj {xs ys : List V} {us : List Value} (h : Vals xs us) : Vals ys us → xs = ys := by
  intro g
  induction h generalizing ys with
  | nil => cases g; rfl
  | cons r t ih =>
    cases g with
    | cons r' t' => rw [RelV.inj r r', ih t']
section
variable {X : Cx} {pins : List (Addr × Obj)} {σ : St} {H : Hp} {s : Shared} {a : Addr} {xs ys : List V}
theorem SqL.of {K : PySem.W.Frag} (h : H a = some (.lst xs)) : SqL K H a xs := .inl (.inl h)
theorem SqT.of {K : PySem.W.Frag} (h : H a = some (.tup xs)) : SqT K H a xs := .inl (.inl h)
theorem Inv.list (I : Inv X pins σ H s) (h : SqL X.K H a xs) : ∃ its : List Value, Vals xs its ∧ PlainL s.heap a its.toArray ∧ xs.length ≤ sizeLine := by
  rcases h with h | ⟨o, its, n, hk, hc, hd, hs, hz, r⟩
  · obtain ⟨z, its, n, r, e⟩ := h.ok I.hok
    exact ⟨its, r, ⟨_, n, e, rfl, rfl, rfl⟩, z⟩
  · refine ⟨its.toList, r, ⟨o, n, I.kIn a o hk, hc, hd, by simpa using hs⟩, ?_⟩
    have e := r.length
    simp only [Array.length_toList] at e
    first | lia | omega
theorem Inv.tuple (I : Inv X pins σ H s) (h : SqT X.K H a xs) : ∃ its : List Value, Vals xs its ∧ IsTup s.heap a its.toArray ∧ xs.length ≤ sizeLine := by
  rcases h with h | ⟨o, its, n, hk, hc, hs, hz, r⟩
  · obtain ⟨z, its, r, p⟩ := h.ok I.hok
    exact ⟨its, r, p, z⟩
  · refine ⟨its.toList, r, ⟨o, I.kIn a o hk, hc, n, by simpa using hs⟩, ?_⟩
    have e := r.length
    simp only [Array.length_toList] at e
    first | lia | omega
theorem Inv.list_inj (I : Inv X pins σ H s) (h : SqL X.K H a xs) (h' : SqL X.K H a ys) : xs = ys := by
  obtain ⟨its, r, ⟨o, n, e, _, _, d⟩, _⟩ := I.list h
  obtain ⟨its', r', ⟨o', n', e', _, _, d'⟩, _⟩ := I.list h'
  rw [e] at e'; cases e'
  rw [d] at d'
  injection d' with d1 _
  have : its = its' := by simpa using congrArg Array.toList d1
  subst this
  exact r.inj r'
theorem Inv.tuple_inj (I : Inv X pins σ H s) (h : SqT X.K H a xs) (h' : SqT X.K H a ys) : xs = ys := by
  obtain ⟨its, r, ⟨o, e, _, n, d⟩, _⟩ := I.tuple h
  obtain ⟨its', r', ⟨o', e', _, n', d'⟩, _⟩ := I.tuple h'
  rw [e] at e'; cases e'
  rw [d] at d'
  injection d' with d1 _
  have : its = its' := by simpa using congrArg Array.toList d1
  subst this
  exact r.inj r'
end

noncomputable abbrev Cx.wish (X : Cx) (E : Value → Shared → Prop) : Cx := { X with xe := E }
noncomputable abbrev Cx.nox (X : Cx) : Cx := X.wish fun _ _ => False
theorem Cx.Ok.wish {X : Cx} (ok : X.Ok) (E : Value → Shared → Prop) : (X.wish E).Ok :=
  ⟨ok.mod, ok.kind, ok.glob, ok.blt, ok.above, ok.inj, ok.has, ok.cab, ok.hd, ok.frames, ok.stk, ok.exf, ok.bs, ok.bsz, ok.noex, ok.exfs, ok.funs, ok.frf⟩
theorem Cx.Ok.unwish {X : Cx} {E : Value → Shared → Prop} (ok : (X.wish E).Ok) : X.Ok :=
  ⟨ok.mod, ok.kind, ok.glob, ok.blt, ok.above, ok.inj, ok.has, ok.cab, ok.hd, ok.frames, ok.stk, ok.exf, ok.bs, ok.bsz, ok.noex, ok.exfs, ok.funs, ok.frf⟩
section
variable {X : Cx} {pins : List (Addr × Obj)} {σ : St} {H : Hp} {s : Shared} {E : Value → Shared → Prop}
theorem Inv.wish (I : Inv X pins σ H s) (E : Value → Shared → Prop) : Inv (X.wish E) pins σ H s := ⟨I.ok.wish E, I.os, I.bare, I.base, I.loc, I.cell, I.free, I.freeC, I.pin, I.hok, I.len⟩
theorem Inv.unwish (I : Inv (X.wish E) pins σ H s) : Inv X pins σ H s := ⟨I.ok.unwish, I.os, I.bare, I.base, I.loc, I.cell, I.free, I.freeC, I.pin, I.hok, I.len⟩
theorem SP.unwish {D : Ends} {f : Flow} {s' : Shared} (h : SP (X.wish E) pins D f s') : SP X pins D f s' := by
  cases f with
  | next => obtain ⟨σ', H', I, q⟩ := h; exact ⟨σ', H', I.unwish, q⟩
  | brk => obtain ⟨σ', H', I, q⟩ := h; exact ⟨σ', H', I.unwish, q⟩
  | cont => obtain ⟨σ', H', I, q⟩ := h; exact ⟨σ', H', I.unwish, q⟩
  | ret u => obtain ⟨v, σ', H', I, r, q⟩ := h; exact ⟨v, σ', H', I.unwish, r, q⟩
theorem PSs.nox {st : List Stmt} {t : TS} (h : PSs X.nox st t) : PSs X st t := ⟨fun pins s σ H D I hw =>
  wpAny_mono (h pins s σ H D (I.wish _) hw) (fun _ _ q => q.unwish) fun _ _ z => False.elim z⟩
end

section
variable {X : Cx} {st : Stmt} {rest : List Stmt} {t u : TS} {e : Expr} {te : TE} {pos : Pos}
noncomputable def tNext : TS := fun D σ H => D.nx σ H
noncomputable def tSeq (t u : TS) : TS := fun D σ H => t { D with nx := u D } σ H
theorem pss_nil : PSs X [] tNext := ⟨fun _ _ σ H _ I h => wpAny_execs_nil ⟨σ, H, I, h⟩⟩
theorem pss_cons (h1 : PS X st t) (h2 : PSs X rest u) : PSs X (st :: rest) (tSeq t u) := by
  constructor
  intro pins s σ H D I h
  refine wpAny_execs_cons (thn (h1 pins s σ H { D with nx := u D } I h) fun f s1 q => ?_)
  cases f with
  | next =>
    obtain ⟨σ', H', I', q⟩ := q
    exact h2 pins s1 σ' H' D I' q
  | ret v => exact q
  | brk => exact q
  | cont => exact q
theorem pss_one (h1 : PS X st t) : PSs X [st] t := by
  constructor
  intro pins s σ H D I h
  refine wpAny_execs_cons (thn (h1 pins s σ H D I h) fun f s1 q => ?_)
  cases f with
  | next => exact wpAny_execs_nil q
  | ret v => exact q
  | brk => exact q
  | cont => exact q
theorem Inv.quiet {pins : List (Addr × Obj)} {σ : St} {H : Hp} {s : Shared} (I : Inv X pins σ H s) : interactive X.env = false := by simp [interactive, I.ok.kind]
noncomputable def tDrop (te : TE) : TS := fun D σ H => te σ H fun _ H1 => D.nx σ H1
theorem ps_expr (he : PE X e te) (hs : swapsWith e none pos.line X.env = pure false := by rfl) : PS X (.Expr e pos) (tDrop te) := by
  constructor
  intro pins s σ H D I h
  exact wpAny_Expr_any (thn (he pins s σ H _ I h) fun v s1 ⟨x, H1, I1, r1, q1⟩ => ⟨σ, H1, I1, q1⟩) I.quiet hs
noncomputable def tRet (te : TE) : TS := fun D σ H => te σ H D.rt
theorem ps_ret (he : PE X e te) : PS X (.Return (some e) pos) (tRet te) := by
  constructor
  intro pins s σ H D I h
  exact wpAny_Return_some (thn (he pins s σ H _ I h) fun v s1 ⟨x, H1, I1, r1, q1⟩ => ⟨x, σ, H1, I1, r1, q1⟩)
noncomputable def tIfS (c : TT) (t u : TS) : TS := fun D σ H => c σ H fun b H1 => if b = true then t D σ H1 else u D σ H1
theorem ps_if {c : Expr} {a b : List Stmt} {tc : TT} (hc : PT X c tc) (ha : PSs X a t) (hb : PSs X b u) : PS X (.If c a b pos) (tIfS tc t u) := by
  constructor
  intro pins s σ H D I h
  refine wpAny_If (thn (hc pins s σ H _ I h) fun d s1 ⟨H1, I1, q1⟩ => ?_)
  cases d with
  | true => exact ha pins s1 σ H1 D I1 q1
  | false => exact hb pins s1 σ H1 D I1 q1
noncomputable def tNever : TS := fun _ _ _ => False
theorem pss_never {sts : List Stmt} : PSs X sts tNever := ⟨fun _ _ _ _ _ _ h => h.elim⟩
end

noncomputable abbrev TG := V → St → Hp → (St → Hp → Prop) → Prop
noncomputable abbrev TGs := List V → St → Hp → (St → Hp → Prop) → Prop
structure PG (X : Cx) (target : Expr) (t : TG) : Prop where
  run :
    ∀ (pins : List (Addr × Obj)) (s : Shared) (σ : St) (H : Hp) (v : V) (u : Value) (Q : St → Hp → Prop), Inv X pins σ H s → RelV v u → t v σ H Q →
      wpAny (model X.prog X.w) X.A (assign target X.env u) (fun _ s' => ∃ σ' H', Inv X pins σ' H' s' ∧ Q σ' H') X.xe s
instance {X : Cx} {target : Expr} {t : TG} : CoeFun (PG X target t) (fun _ =>
  ∀ (pins : List (Addr × Obj)) (s : Shared) (σ : St) (H : Hp) (v : V) (u : Value) (Q : St → Hp → Prop), Inv X pins σ H s → RelV v u → t v σ H Q →
    wpAny (model X.prog X.w) X.A (assign target X.env u) (fun _ s' => ∃ σ' H', Inv X pins σ' H' s' ∧ Q σ' H') X.xe s) := ⟨fun h => h.run⟩
structure PGs (X : Cx) (ts : List Expr) (t : TGs) : Prop where
  run :
    ∀ (pins : List (Addr × Obj)) (s : Shared) (σ : St) (H : Hp) (vs : List V) (us : List Value) (Q : St → Hp → Prop), Inv X pins σ H s → Vals vs us → t vs σ H Q →
      wpAny (model X.prog X.w) X.A (assignInOrder ((assignEach ts X.env).map (·.2)) us) (fun _ s' => ∃ σ' H', Inv X pins σ' H' s' ∧ Q σ' H') X.xe s
instance {X : Cx} {ts : List Expr} {t : TGs} : CoeFun (PGs X ts t) (fun _ =>
  ∀ (pins : List (Addr × Obj)) (s : Shared) (σ : St) (H : Hp) (vs : List V) (us : List Value) (Q : St → Hp → Prop), Inv X pins σ H s → Vals vs us → t vs σ H Q →
    wpAny (model X.prog X.w) X.A (assignInOrder ((assignEach ts X.env).map (·.2)) us) (fun _ s' => ∃ σ' H', Inv X pins σ' H' s' ∧ Q σ' H') X.xe s) := ⟨fun h => h.run⟩
noncomputable abbrev TSet := V → V → V → Hp → (Hp → Prop) → Prop
noncomputable def PSet (X : Cx) (t : TSet) : Prop :=
  ∀ (pins : List (Addr × Obj)) (s : Shared) (σ : St) (H : Hp) (o i v : V) (ov iv u : Value) (Q : Hp → Prop), Inv X pins σ H s → RelV o ov → RelV i iv → RelV v u → t o i v H Q →
    wpAny (model X.prog X.w) X.A (setItem ov iv u) (fun _ s' => ∃ H', Inv X pins σ H' s' ∧ Q H') X.xe s
section
variable {X : Cx} {pos : Pos}
noncomputable def gName (i : Nat) : TG := fun v σ H Q => Q (σ.set i (some v)) H
theorem pg_name {i : Nat} {x : Str} (hN : X.N.Nodup) (hi : X.N[i]? = some x) (hx : Loc X.env.scope x) (hf : X.fn x = true ∨ X.env.scope.names.lookup x = some .local := by first | exact .inl rfl | exact .inr rfl | assumption) : PG X (.Name x pos) (gName i) := by
  constructor
  intro pins s σ H v u Q I r h
  exact wpAny_assign_Name (store_ok I hN hi hx r (fun s' I' => ⟨_, H, I', h⟩) hf)
noncomputable def gNil : TGs := fun vs σ H Q => vs = [] ∧ Q σ H
inductive I_gCons (t : TG) (u : TGs) (vs : List V) (σ : St) (H : Hp) (Q : (St → Hp → Prop)) : Prop
  | mk (v : _) (r : _) (q0 : vs = v :: r) (q1 : t v σ H fun σ' H' => u r σ' H' Q) : I_gCons t u vs σ H Q
noncomputable def gCons (t : TG) (u : TGs) : TGs := fun vs σ H Q => I_gCons t u vs σ H Q
theorem pgs_nil : PGs X [] gNil := by
  constructor
  intro pins s σ H vs us Q I r h
  obtain ⟨e, h⟩ := h
  subst e
  cases r
  exact assignInOrder_nil ⟨σ, H, I, h⟩
theorem pgs_cons {e : Expr} {es : List Expr} {t : TG} {u : TGs} (h1 : PG X e t) (h2 : PGs X es u)
    (hs : (assignEach (e :: es) X.env).map (·.2) = assign e X.env :: (assignEach es X.env).map (·.2) := by rfl) : PGs X (e :: es) (gCons t u) := by
  constructor
  intro pins s σ H vs us Q I r h
  obtain ⟨v, vr, e1, h⟩ := h
  subst e1
  cases r with
  | cons r rr =>
    rw [hs]
    refine assignInOrder_cons (thn (h1 pins s σ H _ _ _ I r h) fun _ s1 ⟨σ1, H1, I1, q1⟩ => ?_)
    exact h2 pins s1 σ1 H1 _ _ Q I1 rr q1
inductive I_gTup (K : PySem.W.Frag) (n : Nat) (t : TGs) (v : V) (σ : St) (H : Hp) (Q : (St → Hp → Prop)) : Prop
  | mk (a : _) (xs : _) (q0 : v = .ref a) (q1 : SqT K H a xs) (q2 : xs.length = n) (q3 : t xs σ H Q) : I_gTup K n t v σ H Q
noncomputable def gTup (K : PySem.W.Frag) (n : Nat) (t : TGs) : TG := fun v σ H Q => I_gTup K n t v σ H Q
theorem pg_tup {es : List Expr} {k : Nat} {t : TGs} {n : Nat} (hc : X.calm = true) (h : PGs X es t)
    (hn : (assignEach es X.env).length = n := by rfl) (hst : (assignEach es X.env).findIdx? (·.1) = none := by rfl) : PG X (.Tuple es k pos) (gTup X.K n t) := by
  constructor
  intro pins s σ H v u Q I r hw
  obtain ⟨a, xs, e1, hq, hl, hw⟩ := hw
  subst e1
  cases r
  obtain ⟨its, rv, ht, hz⟩ := I.tuple hq
  refine assign_Tuple_tuple (I.ok.hd hc) ht (by simp [hn, ← hl, rv.length]) hst fun h' hx => ?_
  have I1 : Inv X pins σ H { s with heap := h' } := I.kept (t' := s.toks) fun b o e => hx b o (Nat.ne_of_lt (Heap.lt_size e)) e
  exact h pins _ σ H xs _ Q I1 (by simpa using rv) hw
noncomputable def gSub (to ti : TE) (t : TSet) : TG := fun v σ H Q => to σ H fun o H1 => ti σ H1 fun i H2 => t o i v H2 fun H3 => Q σ H3
theorem pg_sub {o i : Expr} {to ti : TE} {t : TSet} (ho : PE X o to) (hi : PE X i ti) (hs : PSet X t)
    (ha : ∀ v, assign (.Subscript o i pos) X.env v = (do
      let ov ← holding [v] (eval o X.env)
      let iv ← holding [v, ov] (eval i X.env)
      standAt pos
      holding [v, ov, iv] (setItem ov iv v)
      release [v, ov, iv] []) := by intro _; rfl) : PG X (.Subscript o i pos) (gSub to ti t) := by
  constructor
  intro pins s σ H v u Q I r h
  rw [ha]
  refine wpAny_bind (wpAny_holding (thn (ho pins s σ H _ I h) fun ov s1 ⟨x, H1, I1, r1, q1⟩ => ?_))
  refine wpAny_bind (wpAny_holding (thn (hi pins s1 σ H1 _ I1 q1) fun iv s2 ⟨y, H2, I2, r2, q2⟩ => ?_))
  refine wpAny_bind (wpAny_standAt (wpAny_bind (wpAny_holding (thn (hs pins s2 σ H2 x y v ov iv u _ I2 r1 r2 r q2) fun _ s3 ⟨H3, I3, q3⟩ => ?_))))
  exact wpAny_release ⟨σ, H3, I3, q3⟩
noncomputable def tAsg (te : TE) (g : TG) : TS := fun D σ H => te σ H fun x H1 => g x σ H1 D.nx
theorem ps_asg {tg e : Expr} {te : TE} {g : TG} (he : PE X e te) (hg : PG X tg g) (hs : swapsWithSole [tg] e pos.line X.env = pure false := by rfl) (hw : swappedStores [tg] e X.env = pure none := by rfl)
    (h1 : (assignEach [tg] X.env).map (·.2) = [assign tg X.env] := by rfl) : PS X (.Assign [tg] e pos) (tAsg te g) := by
  constructor
  intro pins s σ H D I h
  refine wpAny_Assign_stores (thn (he pins s σ H _ I h) fun v s1 ⟨x, H1, I1, r1, q1⟩ => ?_) hs hw
  rw [h1]
  exact thn (hg pins s1 σ H1 x v _ I1 r1 q1) fun _ s2 q => q
theorem ps_set {i : Nat} {x : Str} {e : Expr} {te : TE} {pos' : Pos} (hN : X.N.Nodup) (hi : X.N[i]? = some x) (hx : Loc X.env.scope x) (he : PE X e te) (hs : swapsWith e (some (.Name x pos')) pos.line X.env = pure false := by rfl) (hf : X.fn x = true ∨ X.env.scope.names.lookup x = some .local := by first | exact .inl rfl | exact .inr rfl | assumption) :
    PS X (.Assign [.Name x pos'] e pos) (tAsg te (gName i)) := by
  constructor
  intro pins s σ H D I h
  refine wpAny_Assign_Name (thn (he pins s σ H _ I h) fun v s1 ⟨y, H1, I1, r1, q1⟩ => ?_) hs
  exact store_ok I1 hN hi hx r1 (fun s2 I2 => ⟨_, H1, I2, q1⟩) hf
end

section
variable {X : Cx} {pos : Pos}
inductive I_tWhile (c : TT) (tb : TS) (D : Ends) (σ : St) (H : Hp) : Prop
  | mk (W : Nat → St → Hp → Prop) (q0 : (∃ m, W m σ H)) (q1 : ∀ m σ H, W m σ H →
  c σ H fun b H1 => if b = true then ∃ N : St → Hp → Prop, (∀ σ' H', N σ' H' → ∃ m', m' < m ∧ W m' σ' H') ∧ tb { D with nx := N, ct := N, bk := D.nx } σ H1 else D.nx σ H1) : I_tWhile c tb D σ H
noncomputable def tWhile (c : TT) (tb : TS) : TS := fun D σ H => I_tWhile c tb D σ H
theorem ps_while {c : Expr} {body : List Stmt} {tc : TT} {tb : TS} (hp : PassesOwn (model X.prog X.w) X.A X.env X.xe) (hc : PT X c tc) (hb : PSs X body tb) : PS X (.While c body [] pos) (tWhile tc tb) := by
  constructor
  intro pins s σ H D I h
  obtain ⟨W, ⟨m0, w0⟩, turn⟩ := h
  refine wpAny_While (codeAny_whileLoop (fun n s' => ∃ σ' H', Inv X pins σ' H' s' ∧ W n σ' H') ?_ m0 ⟨σ, H, I, w0⟩)
  rintro n s1 ⟨σ1, H1, I1, w1⟩
  refine wpAny_passesOwn hp (thn (hc pins s1 σ1 H1 _ I1 (turn n σ1 H1 w1)) fun b s2 ⟨H2, I2, q2⟩ => ?_)
  cases b with
  | true =>
    obtain ⟨N, hN, q2⟩ := q2
    rw [if_pos rfl]
    refine wpAny_passesOwn hp (thn (hb pins s2 σ1 H2 _ I2 q2) fun f s3 q3 => ?_)
    cases f with
    | next =>
      obtain ⟨σ3, H3, I3, n3⟩ := q3
      obtain ⟨m', hm, w3⟩ := hN σ3 H3 n3
      exact ⟨m', hm, σ3, H3, I3, w3⟩
    | cont =>
      obtain ⟨σ3, H3, I3, n3⟩ := q3
      obtain ⟨m', hm, w3⟩ := hN σ3 H3 n3
      exact ⟨m', hm, σ3, H3, I3, w3⟩
    | brk => exact q3
    | ret v => exact q3
  | false =>
    rw [if_neg Bool.false_ne_true]
    exact wpAny_execs_nil ⟨σ1, H2, I2, q2⟩
end

structure It where
  go : Nat → Hp → Prop
  yld : Nat → Hp → V → Hp → Prop
  stop : Nat → Hp → Prop
noncomputable def FpOk (X : Cx) (pins : List (Addr × Obj)) (H : Hp) (b : Addr) : Prop :=
  H b = none ∧ b ≠ X.env.locals ∧ b ∉ X.fs ∧ (b ∈ X.ex ∨ X.s₀.heap.objs.size ≤ b) ∧ (∀ x c, X.env.cells.lookup x = some c → c ≠ b) ∧ ∀ p ∈ X.pn ++ pins, p.1 ≠ b
theorem Inv.fpOk {X : Cx} {pins : List (Addr × Obj)} {σ : St} {H H' : Hp} {s : Shared} {b : Addr} (I : Inv X pins σ H s) (hb : s.heap.objs.size ≤ b) (hn : H' b = none) : FpOk X pins H' b := by
  refine ⟨hn, Nat.ne_of_gt (Nat.lt_of_lt_of_le I.lt hb), I.nofs hb, .inr (Nat.le_trans I.sz hb), fun x c e z => ?_, fun p hp z => ?_⟩
  · obtain ⟨v, q⟩ := I.cell x c e
    exact absurd (Nat.lt_of_lt_of_le q.lt (by rw [z]; exact hb)) (Nat.lt_irrefl _)
  · exact absurd (Nat.lt_of_lt_of_le (Heap.lt_size (I.pin p hp).1) (by rw [z]; exact hb)) (Nat.lt_irrefl _)
structure Turn (P : Program) (w : World) (K : PySem.W.Frag) (tg : Expr) (J : It) (fp : List Addr) (it : Addr) (tn : Nat → Heap → Prop) : Prop where
  mem : it ∈ fp
  obj : ∀ i h, tn i h → ∀ b ∈ fp, ∃ o, h.get? b = some o ∧ ∀ v, o.data ≠ .cell v
  keep : ∀ i h h', tn i h → (∀ b ∈ fp, ∀ o, h.get? b = some o → h'.get? b = some o) → tn i h'
  item : ∀ (X : Cx), X.prog = P → X.w = w → X.K = K → X.calm = true → ∀ (i : Nat) (pins : List (Addr × Obj)) (s : Shared) (σ : St) (H : Hp) (E : Value → Shared → Prop), Inv X pins σ H s → (∀ b ∈ fp, FpOk X pins H b) → tn i s.heap → J.go i H →
    wpAny (model P w) X.A (pyNext (.ref it)) (fun r s1 => ∃ u, r = some u ∧
      wpAny (model P w) X.A (letOwnedTupleGo tg (.ref it) u) (fun _ s2 => ∃ x H', Inv X pins σ H' s2 ∧ RelV x u ∧ J.yld i H x H' ∧ tn (i + 1) s2.heap ∧ ∀ b ∈ fp, H' b = none) E s1) E s
  done : ∀ (X : Cx), X.prog = P → X.w = w → X.K = K → X.calm = true → ∀ (i : Nat) (pins : List (Addr × Obj)) (s : Shared) (σ : St) (H : Hp) (E : Value → Shared → Prop), Inv X pins σ H s → (∀ b ∈ fp, FpOk X pins H b) → tn i s.heap → J.stop i H →
    wpAny (model P w) X.A (pyNext (.ref it)) (fun r s1 => r = none ∧ Inv X pins σ H s1) E s
  self : ∀ (A : Around) (i : Nat) (s : Shared) (Q : Value → Shared → Prop) (E : Value → Shared → Prop), tn i s.heap → Q (.ref it) s → wpAny (model P w) A (pyIter (.ref it)) Q E s
noncomputable abbrev TI := St → Hp → (It → Hp → Prop) → Prop
inductive I_PIE (X : Cx) (pins : List (Addr × Obj)) (σ : St) (tg : Expr) (R : It → Hp → Prop) (itv : Value) (s2 : Shared) : Prop
  | mk (it : Addr) (fp : List Addr) (tn : Nat → Heap → Prop) (J : It) (H' : Hp) (q0 : itv = .ref it) (q1 : Inv X pins σ H' s2) (q2 : Turn X.prog X.w X.K tg J fp it tn) (q3 : tn 0 s2.heap) (q4 : (∀ b ∈ fp, FpOk X pins H' b)) (q5 : R J H') : I_PIE X pins σ tg R itv s2
noncomputable def PIE (X : Cx) (pins : List (Addr × Obj)) (σ : St) (tg : Expr) (R : It → Hp → Prop) (itv : Value) (s2 : Shared) : Prop := I_PIE X pins σ tg R itv s2
structure PI (X : Cx) (tg iter : Expr) (wi : TI) : Prop where
  run :
    ∀ (pins : List (Addr × Obj)) (s : Shared) (σ : St) (H : Hp) (R : It → Hp → Prop), Inv X pins σ H s → wi σ H R →
      wpAny (model X.prog X.w) X.A (eval iter X.env) (fun v s1 => wpAny (model X.prog X.w) X.A (pyIter v) (PIE X pins σ tg R) X.xe s1) X.xe s
instance {X : Cx} {tg iter : Expr} {wi : TI} : CoeFun (PI X tg iter wi) (fun _ =>
  ∀ (pins : List (Addr × Obj)) (s : Shared) (σ : St) (H : Hp) (R : It → Hp → Prop), Inv X pins σ H s → wi σ H R →
    wpAny (model X.prog X.w) X.A (eval iter X.env) (fun v s1 => wpAny (model X.prog X.w) X.A (pyIter v) (PIE X pins σ tg R) X.xe s1) X.xe s) := ⟨fun h => h.run⟩

theorem go_of {M : Model} {A : Around} {E : Value → Shared → Prop} {s : Shared} {tg : Expr} {it : Addr} {u : Value} {o : Obj} {n : String} {vs : Array Value} {Q : Unit → Shared → Prop} (ho : s.heap.get? it = some o) (hc : o.cls = .type n) (hd : o.data = .fields vs)
    (hn : ["enumerate", "zip", "dict_itemiterator", "dict_reverseitemiterator", "odict_iterator", "itertools.zip_longest", "itertools.pairwise"].contains n = false) (hQ : Q () s) : wpAny M A (letOwnedTupleGo tg (.ref it) u) Q E s := by
  unfold letOwnedTupleGo
  cases tg <;> first
    | exact wpAny_pure hQ
    | (cases u <;> first
        | exact wpAny_pure hQ
        | (refine wpAny_bind (wpAny_load ho ?_)
           rw [hc, hd]
           show wpAny M A (if (["enumerate", "zip", "dict_itemiterator", "dict_reverseitemiterator", "odict_iterator", "itertools.zip_longest", "itertools.pairwise"].contains n && vs[0]? == some (rawInt _)) = true then _ else _) Q E s
           rw [if_neg (by intro h; rw [hn, Bool.false_and] at h; cases h)]
           exact wpAny_pure hQ))

noncomputable def Itl (K : PySem.W.Frag) (a : Addr) : It :=
  ⟨fun i H => ∃ xs x, SqL K H a xs ∧ xs[i]? = some x, fun i H x H' => H' = H ∧ ∀ xs, SqL K H a xs → xs[i]? = some x, fun i H => ∃ xs, SqL K H a xs ∧ xs.length ≤ i⟩
noncomputable def Itt (K : PySem.W.Frag) (a : Addr) : It :=
  ⟨fun i H => ∃ xs x, SqT K H a xs ∧ xs[i]? = some x, fun i H x H' => H' = H ∧ ∀ xs, SqT K H a xs → xs[i]? = some x, fun i H => ∃ xs, SqT K H a xs ∧ xs.length ≤ i⟩
noncomputable def Itr (lo : Int) (n : Nat) : It := ⟨fun i _ => i < n, fun i H x H' => H' = H ∧ x = .int (lo + i), fun i _ => n ≤ i⟩
theorem turn_list {P : Program} {w : World} {K : PySem.W.Frag} {tg : Expr} (a it : Addr) : Turn P w K tg (Itl K a) [it] it (fun i h => h.IsListIter it a i) where
  mem := by simp
  obj := fun i h st b hb => by
    have e : b = it := by simpa using hb
    subst e
    obtain ⟨o, e, c, d⟩ := st
    exact ⟨o, e, fun v z => by rw [d] at z; cases z⟩
  keep := fun i h h' st k => st.at fun o e => k it (by simp) o e
  item := by
    intro X hP hw hK hc i pins s σ H E I hf st hg
    subst hP hw hK
    obtain ⟨xs, x, hq, hx⟩ := hg
    obtain ⟨its, rv, p, hz⟩ := I.list hq
    obtain ⟨u, hu, ru⟩ := rv.get hx
    obtain ⟨f0, f1, f2, f3, f4, f5⟩ := hf it (by simp)
    refine wpAny_pyNext_list_item st p.isList (x := u) (by simpa using hu) fun h' st' sb => ?_
    have I1 : Inv X pins σ H { s with heap := h' } := I.turned (t' := s.toks) (fun b o hb e => (sb.2 b hb).trans e) f0 f1 f3 f4 f5
    obtain ⟨o, e, c, d⟩ := id st'
    exact ⟨u, rfl, go_of (s := { s with heap := h' }) e c d (by decide) ⟨x, H, I1, ru, ⟨rfl, fun ys hy => by rw [I.list_inj hy hq]; exact hx⟩, st', fun b hb => (hf b hb).1⟩⟩
  done := by
    intro X hP hw hK hc i pins s σ H E I hf st hg
    subst hP hw hK
    obtain ⟨xs, hq, hx⟩ := hg
    obtain ⟨its, rv, p, hz⟩ := I.list hq
    obtain ⟨f0, f1, f2, f3, f4, f5⟩ := hf it (by simp)
    have hl := rv.length
    exact wpAny_pyNext_list_end (I.ok.hd hc) st p.isList (by simp; first | lia | omega) fun h' eb => ⟨rfl, I.turned (t' := s.toks) (fun b o hb e => eb b o hb e) f0 f1 f3 f4 f5⟩
  self := fun _ _ _ _ _ st h => wpAny_pyIter_listiter st h
theorem turn_tuple {P : Program} {w : World} {K : PySem.W.Frag} {tg : Expr} (a it : Addr) : Turn P w K tg (Itt K a) [it] it (fun i h => h.IsTupleIter it a i) where
  mem := by simp
  obj := fun i h st b hb => by
    have e : b = it := by simpa using hb
    subst e
    obtain ⟨o, e, c, d⟩ := st
    exact ⟨o, e, fun v z => by rw [d] at z; cases z⟩
  keep := fun i h h' st k => st.at fun o e => k it (by simp) o e
  item := by
    intro X hP hw hK hc i pins s σ H E I hf st hg
    subst hP hw hK
    obtain ⟨xs, x, hq, hx⟩ := hg
    obtain ⟨its, rv, p, hz⟩ := I.tuple hq
    obtain ⟨u, hu, ru⟩ := rv.get hx
    obtain ⟨f0, f1, f2, f3, f4, f5⟩ := hf it (by simp)
    refine wpAny_pyNext_tuple_item st (show s.heap.IsTuple a its.toArray from p) (x := u) (by simpa using hu) fun h' st' sb => ?_
    have I1 : Inv X pins σ H { s with heap := h' } := I.turned (t' := s.toks) (fun b o hb e => (sb.2 b hb).trans e) f0 f1 f3 f4 f5
    obtain ⟨o, e, c, d⟩ := id st'
    exact ⟨u, rfl, go_of (s := { s with heap := h' }) e c d (by decide) ⟨x, H, I1, ru, ⟨rfl, fun ys hy => by rw [I.tuple_inj hy hq]; exact hx⟩, st', fun b hb => (hf b hb).1⟩⟩
  done := by
    intro X hP hw hK hc i pins s σ H E I hf st hg
    subst hP hw hK
    obtain ⟨xs, hq, hx⟩ := hg
    obtain ⟨its, rv, p, hz⟩ := I.tuple hq
    obtain ⟨f0, f1, f2, f3, f4, f5⟩ := hf it (by simp)
    have hl := rv.length
    exact wpAny_pyNext_tuple_end (I.ok.hd hc) st (show s.heap.IsTuple a its.toArray from p) (by simp; first | lia | omega) fun h' eb => ⟨rfl, I.turned (t' := s.toks) (fun b o hb e => eb b o hb e) f0 f1 f3 f4 f5⟩
  self := fun _ _ _ _ _ st h => wpAny_pyIter_tupleiter st h
theorem turn_range {P : Program} {w : World} {K : PySem.W.Frag} {tg : Expr} (it : Addr) (lo : Int) (n : Nat) : Turn P w K tg (Itr lo n) [it] it (fun i h => IsRangeIter h it (lo + (i : Nat) * 1) ((n : Int) - (i : Nat)) 1) where
  mem := by simp
  obj := fun i h st b hb => by
    have e : b = it := by simpa using hb
    subst e
    exact ⟨_, st, fun v z => by
      have z' : Data.fields _ = Data.cell v := z
      cases z'⟩
  keep := fun i h h' st k => k it (by simp) _ st
  item := by
    intro X hP hw hK hc i pins s σ H E I hf st hg
    subst hP hw hK
    obtain ⟨f0, f1, f2, f3, f4, f5⟩ := hf it (by simp)
    have W := Walks.range (prog := X.prog) (w := X.w) (I.ok.hd hc) it lo 1 n
    refine W.item i s _ _ hg st fun v h' tk hv st' kk => ?_
    obtain ⟨t, rfl⟩ := hv
    have I1 : Inv X pins σ H { s with heap := h', toks := tk } := I.turned (fun b o hb e => kk b o (by simpa using hb) e) f0 f1 f3 f4 f5
    refine ⟨_, rfl, go_of (s := { s with heap := h', toks := tk }) (n := "range_iterator") st' rfl rfl (by decide) ⟨.int (lo + i), H, I1, ⟨t, ?_⟩, ⟨rfl, rfl⟩, st', fun b hb => (hf b hb).1⟩⟩
    rw [Int.mul_one]
  done := by
    intro X hP hw hK hc i pins s σ H E I hf st hg
    subst hP hw hK
    obtain ⟨f0, f1, f2, f3, f4, f5⟩ := hf it (by simp)
    exact wpAny_pyNext_range_end (I.ok.hd hc) st (by have : n ≤ i := hg; first | lia | omega) fun h' eb => ⟨rfl, I.turned (t' := s.toks) (fun b o hb e => eb b o hb e) f0 f1 f3 f4 f5⟩
  self := fun _ _ _ _ _ st h => wpAny_pyIter_rangeiter st h
end L2

namespace L2
open PySem PySem.Spec PyProof.Rows
section
variable {X : Cx} {tg : Expr}
noncomputable def iList (K : PySem.W.Frag) (tl : TE) : TI := fun σ H R => tl σ H fun x H1 => As V.ref x fun a => (∃ xs, SqL K H1 a xs) ∧ R (Itl K a) H1
noncomputable def iTup (K : PySem.W.Frag) (tl : TE) : TI := fun σ H R => tl σ H fun x H1 => As V.ref x fun a => (∃ xs, SqT K H1 a xs) ∧ R (Itt K a) H1
theorem pi_list {l : Expr} {tl : TE} (hl : PE X l tl) : PI X tg l (iList X.K tl) := by
  constructor
  intro pins s σ H R I h
  refine thn (hl pins s σ H _ I h) fun v s1 ⟨x, H1, I1, r1, q1⟩ => ?_
  obtain ⟨a, e, ⟨xs, hq⟩, q⟩ := q1
  subst e
  cases r1
  obtain ⟨its, rv, p, hz⟩ := I1.list hq
  refine wpAny_pyIter_list p.isList ?_
  refine ⟨s1.heap.objs.size, [s1.heap.objs.size], _, _, H1, rfl, I1.kept (t' := s1.toks) fun b o e => Heap.get?_push_of_some _ e, turn_list a _, ⟨_, Heap.get?_push_size _ rfl, rfl, rfl⟩, fun b hb => ?_, q⟩
  have e : b = s1.heap.objs.size := by simpa using hb
  subst e
  exact I1.fpOk (Nat.le_refl _) (I1.hok.fresh (Nat.le_refl _))
theorem pi_tup {l : Expr} {tl : TE} (hl : PE X l tl) : PI X tg l (iTup X.K tl) := by
  constructor
  intro pins s σ H R I h
  refine thn (hl pins s σ H _ I h) fun v s1 ⟨x, H1, I1, r1, q1⟩ => ?_
  obtain ⟨a, e, ⟨xs, hq⟩, q⟩ := q1
  subst e
  cases r1
  obtain ⟨its, rv, p, hz⟩ := I1.tuple hq
  refine wpAny_pyIter_tuple (show s1.heap.IsTuple a its.toArray from p) ?_
  refine ⟨s1.heap.objs.size, [s1.heap.objs.size], _, _, H1, rfl, I1.kept (t' := s1.toks) fun b o e => Heap.get?_push_of_some _ e, turn_tuple a _, ⟨_, Heap.get?_push_size _ rfl, rfl, rfl⟩, fun b hb => ?_, q⟩
  have e : b = s1.heap.objs.size := by simpa using hb
  subst e
  exact I1.fpOk (Nat.le_refl _) (I1.hok.fresh (Nat.le_refl _))
theorem range_it {pins : List (Addr × Obj)} {σ : St} {H : Hp} {s : Shared} {R : It → Hp → Prop} {E : Value → Shared → Prop} {lo hi : Int} {t u v : Tok} {tk : Nat} (I : Inv X pins σ H s) (h1 : -(2 ^ 62) ≤ lo) (h2 : lo < 2 ^ 62) (h3 : -(2 ^ 62) ≤ hi) (h4 : hi < 2 ^ 62)
    (q : R (Itr lo (hi - lo).toNat) H) : wpAny (model X.prog X.w) X.A (pyIter (.ref s.heap.objs.size)) (PIE X pins σ tg R) E { s with heap := s.heap.push { cls := .type "range", data := .fields #[.int lo t, .int hi u, .int 1 v] }, toks := tk } := by
  refine wpAny_pyIter_range (IsRange.new ..) (small_one h1 h2 h3 h4) ?_
  have I1 : Inv X pins σ H { s with heap := s.heap.push { cls := .type "range", data := .fields #[.int lo t, .int hi u, .int 1 v] }, toks := tk } := I.kept fun b o e => Heap.get?_push_of_some _ e
  refine ⟨(s.heap.push { cls := .type "range", data := .fields #[.int lo t, .int hi u, .int 1 v] }).objs.size, [(s.heap.push { cls := .type "range", data := .fields #[.int lo t, .int hi u, .int 1 v] }).objs.size], _, _, H, rfl,
    I1.kept (t' := tk) fun b o e => Heap.get?_push_of_some _ e, turn_range _ lo (hi - lo).toNat, ?_, fun b hb => ?_, q⟩
  · have e1 : lo + ((0 : Nat) : Int) * 1 = lo := by simp
    have e2 : (((hi - lo).toNat : Nat) : Int) - ((0 : Nat) : Int) = Builtin.Range.rangeSize lo hi 1 := by rw [rangeSize_one]; split <;> first | lia | omega
    show IsRangeIter _ _ (lo + ((0 : Nat) : Int) * 1) ((((hi - lo).toNat : Nat) : Int) - ((0 : Nat) : Int)) 1
    rw [e1, e2]
    exact Heap.get?_push_size _ rfl
  · have e : b = (s.heap.push { cls := .type "range", data := .fields #[.int lo t, .int hi u, .int 1 v] }).objs.size := by simpa using hb
    subst e
    exact I1.fpOk (Nat.le_refl _) (I1.hok.fresh (Nat.le_refl _))
noncomputable def iRng1 (ta : TA) : TI := fun σ H R => ta σ H fun vs H1 => ∃ j : Int, vs = [.int j] ∧ -(2 ^ 62) ≤ j ∧ j < 2 ^ 62 ∧ R (Itr 0 j.toNat) H1
theorem pi_range1 {a : Expr} {ta : TA} {p pos : Pos} (hg : Gl X "range") (hm : X.mg "range" = none) (ha : PA X [a] ta) (hs : starEach [a] X.env = [(false, eval a X.env)] := by rfl) : PI X tg (.Call (.Name "range" p) [a] [] pos) (iRng1 ta) := by
  constructor
  intro pins s σ H R I h
  refine Call_ (ld_blt I hg hm boot_range (PyProof.Rows.callWith_type1 (thn (ha pos pins s σ H _ I h) fun us s1 ⟨vs, H1, I1, r1, q1⟩ => ?_) hs rfl))
  obtain ⟨j, e, q1, q2, q⟩ := q1
  subst e
  cases r1 with
  | cons r rr =>
    cases rr
    obtain ⟨t, rfl⟩ := r
    exact call_range_1 (range_it I1 (by first | lia | omega) (by first | lia | omega) q1 q2 (by simpa using q))
noncomputable def tFor (wi : TI) (g : TG) (tb : TS) : TS := fun D σ H => wi σ H fun J H1 => ∃ W : Nat → Nat → St → Hp → Prop, (∃ m, W 0 m σ H1) ∧ ∀ i m σ H, W i m σ H →
  (J.stop i H ∧ D.nx σ H) ∨ (J.go i H ∧ ∃ N : St → Hp → Prop, (∀ σ' H', N σ' H' → ∃ m', m' < m ∧ W (i + 1) m' σ' H') ∧ ∀ x H', J.yld i H x H' → g x σ H' fun σ2 H2 => tb { D with nx := N, ct := N, bk := D.nx } σ2 H2)
noncomputable def pinsAt (fp : List Addr) (h : Heap) : List (Addr × Obj) := fp.filterMap fun b => (h.get? b).map fun o => (b, o)
theorem mem_pinsAt {fp : List Addr} {h : Heap} {b : Addr} {o : Obj} (hb : b ∈ fp) (e : h.get? b = some o) : (b, o) ∈ pinsAt fp h := List.mem_filterMap.mpr ⟨b, hb, by rw [e]; rfl⟩
theorem of_pinsAt {fp : List Addr} {h : Heap} {p : Addr × Obj} (hp : p ∈ pinsAt fp h) : p.1 ∈ fp ∧ h.get? p.1 = some p.2 := by
  obtain ⟨b, hb, e⟩ := List.mem_filterMap.mp hp
  cases q : h.get? b with
  | none => rw [q] at e; cases e
  | some o =>
    rw [q] at e
    have e' : (b, o) = p := Option.some.inj e
    subst e'
    exact ⟨hb, q⟩
theorem Inv.pinned {pins : List (Addr × Obj)} {σ : St} {H : Hp} {s : Shared} {fp : List Addr} (I : Inv X pins σ H s) (hf : ∀ b ∈ fp, FpOk X pins H b) (ho : ∀ b ∈ fp, ∃ o, s.heap.get? b = some o ∧ ∀ v, o.data ≠ .cell v) : Inv X (pins ++ pinsAt fp s.heap) σ H s :=
  I.pins_of fun p hp => (List.mem_append.mp hp).elim (fun z => I.pin p (List.mem_append_right _ z)) fun z => by
    obtain ⟨hb, e⟩ := of_pinsAt z
    obtain ⟨f0, f1, f2, _⟩ := hf p.1 hb
    obtain ⟨o, e', d⟩ := ho p.1 hb
    rw [e] at e'; cases e'
    exact ⟨e, f0, f1, f2, d⟩
theorem Inv.unpinned {pins pl : List (Addr × Obj)} {σ : St} {H : Hp} {s : Shared} (I : Inv X (pins ++ pl) σ H s) : Inv X pins σ H s := I.pins_of fun p hp => I.pin p (List.mem_append_right _ (List.mem_append_left _ hp))
theorem ps_for {iter : Expr} {body : List Stmt} {wi : TI} {g : TG} {tb : TS} {pos : Pos} (hp : PassesOwn (model X.prog X.w) X.A X.env X.xe) (hc : X.calm = true) (hi : PI X tg iter wi) (hg : PG X tg g) (hb : PSs X body tb)
    (hs : ∀ x, foldedSetIterable iter X.env x = pure x := by intro _; rfl) : PS X (.For tg iter body [] pos) (tFor wi g tb) := by
  constructor
  intro pins s σ H D I h
  refine wpAny_For (thn (hi pins s σ H _ I h) fun v s1 h1 => thn h1 fun itv s2 h2 => ?_) hs
  obtain ⟨it, fp, tn, J, H2, e, I2, T, st2, f2, W, ⟨m0, w0⟩, turn⟩ := h2
  subst e
  -- what stays true of the iterator's objects through the loop
  have stat : ∀ {H' : Hp}, (∀ b ∈ fp, H' b = none) → ∀ b ∈ fp, FpOk X pins H' b := fun hn b hb => ⟨hn b hb, (f2 b hb).2⟩
  refine codeAny_forLoop_any (fun n s' => ∃ i σ' H', Inv X pins σ' H' s' ∧ tn i s'.heap ∧ (∀ b ∈ fp, H' b = none) ∧ W i n σ' H') ?_ m0 ⟨0, σ, H2, I2, st2, fun b hb => (f2 b hb).1, w0⟩
  rintro n s3 ⟨i, σ3, H3, I3, st3, fr3, w3⟩
  rcases turn i n σ3 H3 w3 with ⟨stop, qn⟩ | ⟨go, N, hN, step⟩
  · refine wpAny_passesOwn hp (thn (T.done X rfl rfl rfl hc i pins s3 σ3 H3 X.xe I3 (stat fr3) st3 stop) fun r s4 ⟨hr, I4⟩ => ?_)
    subst hr
    exact wpAny_execs_nil ⟨σ3, H3, I4, qn⟩
  · refine wpAny_passesOwn hp (thn (T.item X rfl rfl rfl hc i pins s3 σ3 H3 X.xe I3 (stat fr3) st3 go) fun r s4 ⟨u, hr, h4⟩ => ?_)
    subst hr
    refine wpAny_passesOwn hp (thn h4 fun _ s5 ⟨x, H5, I5, r5, y5, st5, fr5⟩ => ?_)
    have I5' := I5.pinned (stat fr5) (T.obj _ _ st5)
    refine wpAny_passesOwn hp (thn (hg _ s5 σ3 H5 x u _ I5' r5 (step x H5 y5)) fun _ s6 ⟨σ6, H6, I6, q6⟩ => ?_)
    refine wpAny_passesOwn hp (thn (hb _ s6 σ6 H6 _ I6 q6) fun f s7 q7 => ?_)
    have again : ∀ {σ7 : St} {H7 : Hp}, Inv X (pins ++ pinsAt fp s5.heap) σ7 H7 s7 → N σ7 H7 → ∃ m, m < n ∧ ∃ i σ' H', Inv X pins σ' H' s7 ∧ tn i s7.heap ∧ (∀ b ∈ fp, H' b = none) ∧ W i m σ' H' := fun {σ7 H7} I7 n7 => by
      obtain ⟨m', hm, w7⟩ := hN σ7 H7 n7
      refine ⟨m', hm, i + 1, σ7, H7, I7.unpinned, T.keep _ _ _ st5 fun b hb o e => (I7.pin (b, o) (List.mem_append_right _ (List.mem_append_right _ (mem_pinsAt hb e)))).1, fun b hb => ?_, w7⟩
      obtain ⟨o, e, d⟩ := T.obj _ _ st5 b hb
      exact (I7.pin (b, o) (List.mem_append_right _ (List.mem_append_right _ (mem_pinsAt hb e)))).2.1
    cases f with
    | next => obtain ⟨σ7, H7, I7, n7⟩ := q7; exact again I7 n7
    | cont => obtain ⟨σ7, H7, I7, n7⟩ := q7; exact again I7 n7
    | brk => obtain ⟨σ7, H7, I7, q7⟩ := q7; exact ⟨σ7, H7, I7.unpinned, q7⟩
    | ret v => obtain ⟨x7, σ7, H7, I7, r7, q7⟩ := q7; exact ⟨x7, σ7, H7, I7.unpinned, r7, q7⟩
end

theorem for_list {K : PySem.W.Frag} {a : Addr} {xs : List V} {g : TG} {tb : TS} {D : Ends} {σ : St} {H : Hp} (Pv : Nat → St → Hp → Prop) (h0 : Pv 0 σ H) (hl : ∀ i σ H, i ≤ xs.length → Pv i σ H → SqL K H a xs)
    (hs : ∀ i x σ H, xs[i]? = some x → Pv i σ H → g x σ H fun σ2 H2 => tb { D with nx := Pv (i + 1), ct := Pv (i + 1), bk := D.nx } σ2 H2) (hd : ∀ σ H, Pv xs.length σ H → D.nx σ H) :
    ∃ W : Nat → Nat → St → Hp → Prop, (∃ m, W 0 m σ H) ∧ ∀ i m σ H, W i m σ H →
      ((Itl K a).stop i H ∧ D.nx σ H) ∨ ((Itl K a).go i H ∧ ∃ N : St → Hp → Prop, (∀ σ' H', N σ' H' → ∃ m', m' < m ∧ W (i + 1) m' σ' H') ∧ ∀ x H', (Itl K a).yld i H x H' → g x σ H' fun σ2 H2 => tb { D with nx := N, ct := N, bk := D.nx } σ2 H2) := by
  refine ⟨fun i m σ H => m = xs.length - i ∧ i ≤ xs.length ∧ Pv i σ H, ⟨xs.length, by simp, Nat.zero_le _, h0⟩, ?_⟩
  rintro i m σ H ⟨rfl, hi, p⟩
  have q := hl i σ H hi p
  by_cases hlt : i < xs.length
  · refine .inr ⟨⟨xs, xs[i], q, by simp [hlt]⟩, Pv (i + 1), fun σ' H' p' => ⟨xs.length - (i + 1), by first | lia | omega, rfl, hlt, p'⟩, fun x H' y => ?_⟩
    obtain ⟨e, y⟩ := y
    subst e
    exact hs i x σ _ (y xs q) p
  · have e : i = xs.length := by first | lia | omega
    subst e
    exact .inl ⟨⟨xs, q, Nat.le_refl _⟩, hd σ H p⟩
theorem for_range {lo : Int} {n : Nat} {g : TG} {tb : TS} {D : Ends} {σ : St} {H : Hp} (Pv : Nat → St → Hp → Prop) (h0 : Pv 0 σ H)
    (hs : ∀ i σ H, i < n → Pv i σ H → g (.int (lo + i)) σ H fun σ2 H2 => tb { D with nx := Pv (i + 1), ct := Pv (i + 1), bk := D.nx } σ2 H2) (hd : ∀ σ H, Pv n σ H → D.nx σ H) :
    ∃ W : Nat → Nat → St → Hp → Prop, (∃ m, W 0 m σ H) ∧ ∀ i m σ H, W i m σ H →
      ((Itr lo n).stop i H ∧ D.nx σ H) ∨ ((Itr lo n).go i H ∧ ∃ N : St → Hp → Prop, (∀ σ' H', N σ' H' → ∃ m', m' < m ∧ W (i + 1) m' σ' H') ∧ ∀ x H', (Itr lo n).yld i H x H' → g x σ H' fun σ2 H2 => tb { D with nx := N, ct := N, bk := D.nx } σ2 H2) := by
  refine ⟨fun i m σ H => m = n - i ∧ i ≤ n ∧ Pv i σ H, ⟨n, by simp, Nat.zero_le _, h0⟩, ?_⟩
  rintro i m σ H ⟨rfl, hi, p⟩
  by_cases hlt : i < n
  · refine .inr ⟨hlt, Pv (i + 1), fun σ' H' p' => ⟨n - (i + 1), by first | lia | omega, rfl, hlt, p'⟩, fun x H' y => ?_⟩
    obtain ⟨e, y⟩ := y
    subst e y
    exact hs i σ _ hlt p
  · have e : i = n := by first | lia | omega
    subst e
    exact .inl ⟨Nat.le_refl _, hd σ H p⟩
end L2

namespace L2
open PySem PySem.Spec PyProof.Rows

noncomputable abbrev R2 := V → V → Hp → VK → Prop
noncomputable def OpR (X : Cx) (f : Value → Value → Sem Value) (r : R2) : Prop :=
  ∀ (pins : List (Addr × Obj)) (s : Shared) (σ : St) (H : Hp) (x y : V) (v u : Value) (Q : VK), Inv X pins σ H s → RelV x v → RelV y u → r x y H Q →
    wpAny (model X.prog X.w) X.A (f v u) (EP X pins σ Q) X.xe s
noncomputable def CallR (X : Cx) (f : Value) (r : List V → Hp → VK → Prop) : Prop :=
  ∀ (pins : List (Addr × Obj)) (s : Shared) (σ : St) (H : Hp) (xs : List V) (us : List Value) (Q : VK), Inv X pins σ H s → Vals xs us → r xs H Q →
    wpAny (model X.prog X.w) X.A (call f us) (EP X pins σ Q) X.xe s
noncomputable def tOp (r : R2) (ta tb : TE) : TE := fun σ H Q => ta σ H fun x H1 => tb σ H1 fun y H2 => r x y H2 Q
inductive I_rI (C : Int → Int → Prop) (g : Int → Int → V) (x : V) (y : V) (H : Hp) (Q : VK) : Prop
  | mk (i : _) (j : _) (q0 : x = .int i) (q1 : y = .int j) (q2 : C i j) (q3 : Q (g i j) H) : I_rI C g x y H Q
noncomputable def rI (C : Int → Int → Prop) (g : Int → Int → V) : R2 := fun x y H Q => I_rI C g x y H Q
inductive I_rI0 (g : Int → Int → V) (x : V) (y : V) (H : Hp) (Q : VK) : Prop
  | mk (i : _) (j : _) (q0 : x = .int i) (q1 : y = .int j) (q2 : Q (g i j) H) : I_rI0 g x y H Q
noncomputable def rI0 (g : Int → Int → V) : R2 := fun x y H Q => I_rI0 g x y H Q
section
variable {X : Cx} {a b c : Expr} {ta tb tc : TE} {pos : Pos}

theorem binT (ha : PE X a ta) (hb : PE X b tb) {pins : List (Addr × Obj)} {s : Shared} {σ : St} {H : Hp} {R : V → V → Hp → Prop} (I : Inv X pins σ H s)
    (h : ta σ H fun x H1 => tb σ H1 fun y H2 => R x y H2) {Q : Value → Shared → Prop} {f : Value → Value → Sem Value}
    (hf : ∀ v u s2 x y H2, Inv X pins σ H2 s2 → RelV x v → RelV y u → R x y H2 → wpAny (model X.prog X.w) X.A (f v u) Q X.xe s2) :
    wpAny (model X.prog X.w) X.A (eval a X.env) (fun v s₁ => wpAny (model X.prog X.w) X.A (eval b X.env) (fun u s₂ => wpAny (model X.prog X.w) X.A (f v u) Q X.xe s₂) X.xe s₁) X.xe s := by
  refine thn (ha pins s σ H _ I h) fun v s1 ⟨x, H1, I1, r1, q1⟩ => ?_
  refine thn (hb pins s1 σ H1 _ I1 q1) fun u s2 ⟨y, H2, I2, r2, q2⟩ => ?_
  exact hf v u s2 x y H2 I2 r1 r2 q2

theorem pe_op {op : Operator} {r : R2} (ho : OpR X (binaryOp op) r) (ha : PE X a ta) (hb : PE X b tb) : PE X (.BinOp a op b pos) (tOp r ta tb) := by
  constructor
  intro pins s σ H Q I h
  exact wpAny_BinOp (binT ha hb I h fun v u s2 x y H2 I2 rx ry q => ho pins s2 σ H2 x y v u Q I2 rx ry q)
theorem opI {f : Value → Value → Sem Value} {C : Int → Int → Prop} {g : Int → Int → Int}
    (rule : ∀ (i j : Int) (t u : Tok) (s : Shared) (Q : Value → Shared → Prop) (E : Value → Shared → Prop), C i j → Q (.int (g i j) s.toks) { s with toks := s.toks + 1 } → wpAny (model X.prog X.w) X.A (f (.int i t) (.int j u)) Q E s) :
    OpR X f (rI C fun i j => .int (g i j)) := by
  intro pins s σ H x y v u Q I rx ry h
  obtain ⟨i, j, rfl, rfl, hc, q⟩ := h
  obtain ⟨t, rfl⟩ := rx
  obtain ⟨t', rfl⟩ := ry
  exact rule i j t t' s _ _ hc ⟨.int (g i j), H, I.tok _, ⟨_, rfl⟩, q⟩
theorem opI0 {f : Value → Value → Sem Value} {g : Int → Int → Int}
    (rule : ∀ (i j : Int) (t u : Tok) (s : Shared) (Q : Value → Shared → Prop) (E : Value → Shared → Prop), Q (.int (g i j) s.toks) { s with toks := s.toks + 1 } → wpAny (model X.prog X.w) X.A (f (.int i t) (.int j u)) Q E s) :
    OpR X f (rI0 fun i j => .int (g i j)) := by
  intro pins s σ H x y v u Q I rx ry h
  obtain ⟨i, j, rfl, rfl, q⟩ := h
  obtain ⟨t, rfl⟩ := rx
  obtain ⟨t', rfl⟩ := ry
  exact rule i j t t' s _ _ ⟨.int (g i j), H, I.tok _, ⟨_, rfl⟩, q⟩
theorem opB0 {f : Value → Value → Sem Value} {g : Int → Int → Bool}
    (rule : ∀ (i j : Int) (t u : Tok) (s : Shared) (Q : Value → Shared → Prop) (E : Value → Shared → Prop), Q (.bool (g i j)) s → wpAny (model X.prog X.w) X.A (f (.int i t) (.int j u)) Q E s) :
    OpR X f (rI0 fun i j => .bl (g i j)) := by
  intro pins s σ H x y v u Q I rx ry h
  obtain ⟨i, j, rfl, rfl, q⟩ := h
  obtain ⟨t, rfl⟩ := rx
  obtain ⟨t', rfl⟩ := ry
  exact rule i j t t' s _ _ ⟨.bl (g i j), H, I, rfl, q⟩

noncomputable def CDiv (i j : Int) : Prop := 0 < j ∧ j < 1073741824
noncomputable def CPow (i j : Int) : Prop := 0 ≤ j ∧ j ≤ 1000000 ∧ i.natAbs < 2 ^ 64
noncomputable def CMul (i j : Int) : Prop := (-(2 ^ 64) < i ∧ i < 2 ^ 64) ∨ (-(2 ^ 64) < j ∧ j < 2 ^ 64)
theorem CMul.ok {i j : Int} (h : CMul i j) : IntMulOk i j := by
  rcases h with ⟨h1, h2⟩ | ⟨h1, h2⟩
  · exact .of_left (intBits_le_64 h1 h2)
  · exact .of_right (intBits_le_64 h1 h2)
theorem op_add : OpR X (binaryOp .Add) (rI0 fun i j => .int (i + j)) := opI0 fun _ _ _ _ _ _ _ q => add_int q
theorem op_sub : OpR X (binaryOp .Sub) (rI0 fun i j => .int (i - j)) := opI0 fun _ _ _ _ _ _ _ q => sub_int q
theorem op_mul : OpR X (binaryOp .Mult) (rI CMul fun i j => .int (i * j)) := opI fun _ _ _ _ _ _ _ hc q => mul_int q hc.ok
theorem op_fdiv : OpR X (binaryOp .FloorDiv) (rI CDiv fun i j => .int (i / j)) := opI fun i j _ _ _ _ _ hc q => by
  have h1 : (0 : Int) < j := hc.1
  have h2 : j < 1073741824 := hc.2
  exact floordiv_int (by first | lia | omega) (by rw [Int.fdiv_eq_ediv_of_nonneg i (by first | lia | omega)]; exact q) (.inl (PyProof.noPylong_small (by first | lia | omega)))
theorem op_mod : OpR X (binaryOp .Mod) (rI (fun _ j => 0 < j) fun i j => .int (i % j)) := opI fun i j _ _ _ _ _ hc q => by
  have h1 : (0 : Int) < j := hc
  exact mod_int' (by first | lia | omega) (by rw [Int.fmod_eq_emod_of_nonneg i (by first | lia | omega)]; exact q)
theorem op_pow : OpR X (binaryOp .Pow) (rI CPow fun i j => .int (i ^ j.toNat)) := opI fun _ _ _ _ _ _ _ hc q => pow_int_small hc.1 hc.2.1 hc.2.2 q
end

noncomputable def scal : V → V → Bool
  | .non, .non => true | .non, .int _ => true | .int _, .non => true | .non, .bl _ => true | .bl _, .non => true | .non, .str _ => true | .str _, .non => true
  | .int _, .int _ => true | .bl _, .bl _ => true | .str _, .str _ => true | .byt _, .byt _ => true
  | .int _, .str _ => true | .str _, .int _ => true | .bl _, .str _ => true | .str _, .bl _ => true
  | _, _ => false
noncomputable def rEq : R2 := fun x y H Q => scal x y = true ∧ Q (.bl (decide (x = y))) H
noncomputable def rNe : R2 := fun x y H Q => scal x y = true ∧ Q (.bl (!decide (x = y))) H

theorem dec_int {i j : Int} : decide (V.int i = V.int j) = (i == j) := by
  rw [Bool.eq_iff_iff]
  simp
theorem dec_bl {i j : Bool} : decide (V.bl i = V.bl j) = (i == j) := by
  rw [Bool.eq_iff_iff]
  simp
theorem dec_str {i j : Str} : decide (V.str i = V.str j) = (i == j) := by
  rw [Bool.eq_iff_iff]
  simp
theorem dec_byt {i j : Array UInt8} : decide (V.byt i = V.byt j) = (i.toList == j.toList) := by
  rw [Bool.eq_iff_iff]
  cases i
  cases j
  simp

section
variable {X : Cx} {a b c : Expr} {ta tb tc : TE} {pos : Pos}
theorem fin_bl {pins : List (Addr × Obj)} {σ : St} {H : Hp} {s : Shared} {Q : VK} {k k' : Bool} (I : Inv X pins σ H s) (q : Q (.bl k) H) (e : k = k') : EP X pins σ Q (.bool k') s := by
  subst e
  exact ⟨.bl k, H, I, rfl, q⟩
theorem op_eq : OpR X (compareOp .Eq) rEq := by
  intro pins s σ H x y v u Q I rx ry h
  obtain ⟨hs, q⟩ := h
  cases x with
  | non =>
    cases rx
    cases y with
    | non => cases ry; exact PySem.EqNone.eq_none_none (fin_bl I q (by simp))
    | bl j => cases ry; exact PySem.EqNone.eq_none_bool (fin_bl I q (by simp))
    | int j => obtain ⟨t', rfl⟩ := ry; exact PySem.EqNone.eq_none_int (fin_bl I q (by simp))
    | str j => obtain ⟨t', rfl⟩ := ry; exact PySem.EqNone.eq_none_str (fin_bl I q (by simp))
    | _ => exact absurd (show false = true from hs) Bool.false_ne_true
  | bl i =>
    cases rx
    cases y with
    | non => cases ry; exact PySem.EqNone.eq_bool_none (fin_bl I q (by simp))
    | bl j => cases ry; exact eq_bool (fin_bl I q dec_bl)
    | str j => obtain ⟨t', rfl⟩ := ry; exact PySem.EqMixed.eq_bool_str (fin_bl I q (by simp))
    | _ => exact absurd (show false = true from hs) Bool.false_ne_true
  | int i =>
    obtain ⟨t, rfl⟩ := rx
    cases y with
    | non => cases ry; exact PySem.EqNone.eq_int_none (fin_bl I q (by simp))
    | int j => obtain ⟨t', rfl⟩ := ry; exact eq_int (fin_bl I q dec_int)
    | str j => obtain ⟨t', rfl⟩ := ry; exact PySem.EqMixed.eq_int_str (fin_bl I q (by simp))
    | _ => exact absurd (show false = true from hs) Bool.false_ne_true
  | str i =>
    obtain ⟨t, rfl⟩ := rx
    cases y with
    | non => cases ry; exact PySem.EqNone.eq_str_none (fin_bl I q (by simp))
    | bl j => cases ry; exact PySem.EqMixed.eq_str_bool (fin_bl I q (by simp))
    | int j => obtain ⟨t', rfl⟩ := ry; exact PySem.EqMixed.eq_str_int (fin_bl I q (by simp))
    | str j => obtain ⟨t', rfl⟩ := ry; exact eq_str (fin_bl I q dec_str)
    | _ => exact absurd (show false = true from hs) Bool.false_ne_true
  | byt i =>
    obtain ⟨t, rfl⟩ := rx
    cases y with
    | byt j => obtain ⟨t', rfl⟩ := ry; exact PySem.W.eq_bytes (fin_bl I q dec_byt)
    | _ => exact absurd (show false = true from hs) Bool.false_ne_true
  | _ => cases y <;> exact absurd (show false = true from hs) Bool.false_ne_true
theorem op_ne : OpR X (compareOp .NotEq) rNe := by
  intro pins s σ H x y v u Q I rx ry h
  obtain ⟨hs, q⟩ := h
  cases x with
  | non =>
    cases rx
    cases y with
    | non => cases ry; exact PySem.EqNone.ne_none_none (fin_bl I q (by simp))
    | bl j => cases ry; exact PySem.EqNone.ne_none_bool (fin_bl I q (by simp))
    | int j => obtain ⟨t', rfl⟩ := ry; exact PySem.EqNone.ne_none_int (fin_bl I q (by simp))
    | str j => obtain ⟨t', rfl⟩ := ry; exact PySem.EqNone.ne_none_str (fin_bl I q (by simp))
    | _ => exact absurd (show false = true from hs) Bool.false_ne_true
  | bl i =>
    cases rx
    cases y with
    | non => cases ry; exact PySem.EqNone.ne_bool_none (fin_bl I q (by simp))
    | bl j => cases ry; exact ne_bool (fin_bl I q (congrArg not dec_bl))
    | str j => obtain ⟨t', rfl⟩ := ry; exact PySem.EqMixed.ne_bool_str (fin_bl I q (by simp))
    | _ => exact absurd (show false = true from hs) Bool.false_ne_true
  | int i =>
    obtain ⟨t, rfl⟩ := rx
    cases y with
    | non => cases ry; exact PySem.EqNone.ne_int_none (fin_bl I q (by simp))
    | int j => obtain ⟨t', rfl⟩ := ry; exact ne_int (fin_bl I q (congrArg not dec_int))
    | str j => obtain ⟨t', rfl⟩ := ry; exact PySem.EqMixed.ne_int_str (fin_bl I q (by simp))
    | _ => exact absurd (show false = true from hs) Bool.false_ne_true
  | str i =>
    obtain ⟨t, rfl⟩ := rx
    cases y with
    | non => cases ry; exact PySem.EqNone.ne_str_none (fin_bl I q (by simp))
    | bl j => cases ry; exact PySem.EqMixed.ne_str_bool (fin_bl I q (by simp))
    | int j => obtain ⟨t', rfl⟩ := ry; exact PySem.EqMixed.ne_str_int (fin_bl I q (by simp))
    | str j => obtain ⟨t', rfl⟩ := ry; exact ne_str (fin_bl I q (congrArg not dec_str))
    | _ => exact absurd (show false = true from hs) Bool.false_ne_true
  | byt i =>
    obtain ⟨t, rfl⟩ := rx
    cases y with
    | byt j => obtain ⟨t', rfl⟩ := ry; exact PySem.W.ne_bytes (fin_bl I q (congrArg not dec_byt))
    | _ => exact absurd (show false = true from hs) Bool.false_ne_true
  | _ => cases y <;> exact absurd (show false = true from hs) Bool.false_ne_true

theorem op_lt : OpR X (compareOp .Lt) (rI0 fun i j => .bl (decide (i < j))) := opB0 fun _ _ _ _ _ _ _ q => lt_int q
theorem op_le : OpR X (compareOp .LtE) (rI0 fun i j => .bl (decide (i ≤ j))) := opB0 fun _ _ _ _ _ _ _ q => le_int q
theorem op_gt : OpR X (compareOp .Gt) (rI0 fun i j => .bl (decide (j < i))) := opB0 fun _ _ _ _ _ _ _ q => gt_int q
theorem op_ge : OpR X (compareOp .GtE) (rI0 fun i j => .bl (decide (j ≤ i))) := opB0 fun _ _ _ _ _ _ _ q => ge_int q
theorem op_isN : OpR X (compareOp .Is) (fun x y H Q => y = .non ∧ Q (.bl (decide (x = .non))) H) := by
  intro pins s σ H x y v u Q I rx ry h
  obtain ⟨rfl, q⟩ := h
  cases ry
  refine is_none_gen (fin_bl I q ?_)
  cases x <;> first
    | (cases rx; rfl)
    | (obtain ⟨t, rfl⟩ := rx; rfl)
theorem op_notN : OpR X (compareOp .IsNot) (fun x y H Q => y = .non ∧ Q (.bl (!decide (x = .non))) H) := by
  intro pins s σ H x y v u Q I rx ry h
  obtain ⟨rfl, q⟩ := h
  cases ry
  refine isnot_none_gen (fin_bl I q ?_)
  cases x <;> first
    | (cases rx; rfl)
    | (obtain ⟨t, rfl⟩ := rx; rfl)

theorem nomark (b : Expr) {op : CmpOp} (h : op ≠ .In := by decide) (h2 : op ≠ .NotIn := by decide) : behindInMarks op b = false := by
  have e1 : (op == CmpOp.In) = false := by cases op <;> first | rfl | exact absurd rfl h
  have e2 : (op == CmpOp.NotIn) = false := by cases op <;> first | rfl | exact absurd rfl h2
  cases b <;> simp [behindInMarks, e1, e2]
theorem pe_cmpR {op : CmpOp} {r : R2} (ho : OpR X (compareOp op) r) (ha : PE X a ta) (hb : PE X b tb) (hm : behindInMarks op b = false) : PE X (.Compare a [op] [b] pos) (tOp r ta tb) := by
  constructor
  intro pins s σ H Q I h
  exact wpAny_Compare1 (binT ha hb I h fun v u s2 x y H2 I2 rx ry q => ho pins s2 σ H2 x y v u Q I2 rx ry q) hm
noncomputable def tTest (t : TE) : TT := fun σ H Q => t σ H fun x H' => As V.bl x fun k => Q k H'
theorem pt_cmpR {op : CmpOp} {r : R2} (ho : OpR X (compareOp op) r) (ha : PE X a ta) (hb : PE X b tb) (hm : behindInMarks op b = false) : PT X (.Compare a [op] [b] pos) (tTest (tOp r ta tb)) := by
  constructor
  intro pins s σ H Q I h
  refine wpAny_isTrue_Compare1 (thn (ha pins s σ H _ I h) fun v s1 ⟨x, H1, I1, r1, q1⟩ => thn (hb pins s1 σ H1 _ I1 q1) fun u s2 ⟨y, H2, I2, r2, q2⟩ =>
    thn (ho pins s2 σ H2 x y v u _ I2 r1 r2 q2) fun c s3 ⟨z, H3, I3, r3, k, e, q3⟩ => ?_) hm
  subst e
  cases r3
  exact wpAny_truthy_bool ⟨H3, I3, q3⟩
noncomputable def tChain (r r' : R2) (ta tb tc : TE) : TE := fun σ H Q => ta σ H fun x H1 => tb σ H1 fun y H2 => r x y H2 fun z H3 => As V.bl z fun k => 
  (if k = true then tc σ H3 fun w' H4 => r' y w' H4 Q else Q (.bl false) H3)
theorem pe_chain {op op' : CmpOp} {r r' : R2} (ho : OpR X (compareOp op) r) (ho' : OpR X (compareOp op') r') (ha : PE X a ta) (hb : PE X b tb) (hc : PE X c tc)
    (hm : lastMarks [op, op'] [b, c] = false := by with_unfolding_all rfl) : PE X (.Compare a [op, op'] [b, c] pos) (tChain r r' ta tb tc) := by
  constructor
  intro pins s σ H Q I h
  refine Compare_chain (thn (ha pins s σ H _ I h) fun v s1 ⟨x, H1, I1, r1, q1⟩ => chain_link (thn (hb pins s1 σ H1 _ I1 q1) fun u s2 ⟨y, H2, I2, r2, q2⟩ =>
    thn (ho pins s2 σ H2 x y v u _ I2 r1 r2 q2) fun d s3 ⟨z, H3, I3, r3, k, e, q3⟩ => ?_)) hm
  subst e
  cases r3
  refine wpAny_truthy_bool ?_
  cases k with
  | false => exact ite_ff ⟨.bl false, H3, I3, rfl, q3⟩
  | true => exact ite_tt (chain_last (thn (hc pins s3 σ H3 _ I3 q3) fun w' s4 ⟨z', H4, I4, r4, q4⟩ => ho' pins s4 σ H4 y z' u w' Q I4 r2 r4 q4))
theorem pt_chain {op op' : CmpOp} {r r' : R2} (ho : OpR X (compareOp op) r) (ho' : OpR X (compareOp op') r') (ha : PE X a ta) (hb : PE X b tb) (hc : PE X c tc)
    (hm : lastMarks [op, op'] [b, c] = false := by with_unfolding_all rfl) : PT X (.Compare a [op, op'] [b, c] pos) (tTest (tChain r r' ta tb tc)) := by
  constructor
  intro pins s σ H Q I h
  refine isTrue_chain (thn (ha pins s σ H _ I h) fun v s1 ⟨x, H1, I1, r1, q1⟩ => test_link (thn (hb pins s1 σ H1 _ I1 q1) fun u s2 ⟨y, H2, I2, r2, q2⟩ =>
    thn (ho pins s2 σ H2 x y v u _ I2 r1 r2 q2) fun d s3 ⟨z, H3, I3, r3, k, e, q3⟩ => ?_)) hm
  subst e
  cases r3
  refine wpAny_truthy_bool ?_
  cases k with
  | false =>
    obtain ⟨k', e', q'⟩ := q3
    cases e'
    exact ite_ff ⟨H3, I3, q'⟩
  | true =>
    refine ite_tt (test_last (thn (hc pins s3 σ H3 _ I3 q3) fun w' s4 ⟨z', H4, I4, r4, q4⟩ => thn (ho' pins s4 σ H4 y z' u w' _ I4 r2 r4 q4) fun d' s5 ⟨z2, H5, I5, r5, k2, e2, q5⟩ => ?_))
    subst e2
    cases r5
    exact wpAny_truthy_bool ⟨H5, I5, q5⟩

theorem line63 : (sizeLine : Nat) < 2 ^ 63 := by rw [sizeLine_eq]; decide
inductive I_r_op_add_str (x : V) (y : V) (H : Hp) (Q : VK) : Prop
  | mk (i : _) (j : _) (q0 : x = .str i) (q1 : y = .str j) (q2 : i.length + j.length ≤ sizeLine) (q3 : Q (.str (i ++ j)) H) : I_r_op_add_str x y H Q
noncomputable def r_op_add_str : V → V → Hp → VK → Prop := fun x y H Q => I_r_op_add_str x y H Q
theorem op_add_str : OpR X (binaryOp .Add) r_op_add_str := by
  intro pins s σ H x y v u Q I rx ry h
  obtain ⟨i, j, rfl, rfl, hz, q⟩ := h
  obtain ⟨t, rfl⟩ := rx
  obtain ⟨t', rfl⟩ := ry
  exact add_str (fun t' tk => ⟨.str (i ++ j), H, I.tok _, ⟨_, rfl⟩, q⟩) hz
theorem vals1 {x : V} {us : List Value} (r : Vals [x] us) : ∃ u, us = [u] ∧ RelV x u := by
  cases r with
  | cons r1 r2 => cases r2; exact ⟨_, rfl, r1⟩
theorem vals2 {x y : V} {us : List Value} (r : Vals [x, y] us) : ∃ u w', us = [u, w'] ∧ RelV x u ∧ RelV y w' := by
  cases r with
  | cons r1 r2 =>
    cases r2 with
    | cons r3 r4 => cases r4; exact ⟨_, _, rfl, r1, r3⟩
inductive I_r_call_abs (xs : List V) (H : Hp) (Q : VK) : Prop
  | mk (i : _) (q0 : xs = [.int i]) (q1 : Q (.int (if i < 0 then -i else i)) H) : I_r_call_abs xs H Q
noncomputable def r_call_abs : List V → Hp → VK → Prop := fun xs H Q => I_r_call_abs xs H Q
theorem call_abs : CallR X (.builtin "abs") r_call_abs := by
  intro pins s σ H xs us Q I r h
  obtain ⟨i, rfl, q⟩ := h
  obtain ⟨u, rfl, t, rfl⟩ := vals1 r
  exact call_abs_int fun u tk => ⟨.int (if i < 0 then -i else i), H, I.tok _, ⟨_, rfl⟩, q⟩
inductive I_r_call_min2 (xs : List V) (H : Hp) (Q : VK) : Prop
  | mk (i : _) (j : _) (q0 : xs = [.int i, .int j]) (q1 : Q (.int (if j < i then j else i)) H) : I_r_call_min2 xs H Q
noncomputable def r_call_min2 : List V → Hp → VK → Prop := fun xs H Q => I_r_call_min2 xs H Q
theorem call_min2 (hc : X.calm = true) : CallR X (.builtin "min") r_call_min2 := by
  intro pins s σ H xs us Q I r h
  obtain ⟨i, j, rfl, q⟩ := h
  obtain ⟨u, w', rfl, ⟨t, rfl⟩, ⟨t', rfl⟩⟩ := vals2 r
  refine min_two_ints (I.ok.hd hc) fun h' tk k => ⟨_, H, I.kept k, ?_, q⟩
  by_cases hj : j < i
  · rw [if_pos hj, if_pos hj]; exact ⟨_, rfl⟩
  · rw [if_neg hj, if_neg hj]; exact ⟨_, rfl⟩
theorem call_int1 : CallR X (.type "int") (fun xs H Q => (∃ i, xs = [.int i] ∧ Q (.int i) H) ∨ ∃ k, xs = [.bl k] ∧ Q (.int (if k then 1 else 0)) H) := by
  intro pins s σ H xs us Q I r h
  rcases h with ⟨i, rfl, q⟩ | ⟨k, rfl, q⟩
  · obtain ⟨u, rfl, t, rfl⟩ := vals1 r
    exact call_int_int ⟨.int i, H, I, ⟨_, rfl⟩, q⟩
  · obtain ⟨u, rfl, r1⟩ := vals1 r
    cases r1
    exact call_int_bool ⟨.int (if k then 1 else 0), H, I.tok _, ⟨_, rfl⟩, q⟩
end
end L2

namespace L2
open PySem PySem.Spec PyProof.Rows

structure ObjM (h : Heap) (x dx C : Addr) (mA : Str → Option Value) : Prop where
  obj : h.get? x = some (PySem.W.instObj C dx)
  ns : h.Ns1 dx mA
  ne : dx ≠ x

theorem lookIn_ns {h : Heap} {dx : Addr} {mA : Str → Option Value} (n : h.Ns1 dx mA) : ∃ od, h.get? dx = some od ∧ ∀ name, PySem.W.lookIn name od = some (mA name) := by
  obtain ⟨o, es, ep, ho, hd, hk, _, hm⟩ := n
  refine ⟨o, ho, fun name => ?_⟩
  have e := hm name
  unfold nsFind findBy at e
  rw [← Array.find?_toList] at e
  unfold PySem.W.lookIn
  rw [hd]
  dsimp only
  split
  · rename_i y q
    rw [q] at e
    exact congrArg some e
  · rename_i q
    rw [q] at e
    have a : es.toList.any (·.refKey) = false := by
      rw [List.any_eq_false]
      intro y hy
      obtain ⟨z, t, hkey⟩ := hk y (Array.mem_toList_iff.mp hy)
      simp [DictEntry.refKey, hkey]
    have a' : ¬ es.toList.any (·.refKey) = true := by rw [a]; exact Bool.false_ne_true
    rw [if_neg a']
    exact congrArg some e

theorem ObjM.look {h : Heap} {x dx C : Addr} {mA : Str → Option Value} (I : ObjM h x dx C mA) : ∃ od, PySem.W.InstAt h x (PySem.W.instObj C dx) C (some od) ∧ ∀ name, PySem.W.lookIn name od = some (mA name) :=
  let ⟨od, ho, hl⟩ := lookIn_ns I.ns
  ⟨od, ⟨I.obj, rfl, rfl, ho⟩, hl⟩

section
variable {prog : Program} {w : World} {A : Around} {E : Value → Shared → Prop} {s : Shared} {K : PySem.W.Frag} {x dx C f : Addr} {mA : Str → Option Value} {name : Str} {v : Value}

end

theorem RelO.some_of {v : V} {o : Option Value} (r : RelO (some v) o) : ∃ u, o = some u ∧ RelV v u := by
  cases o with
  | none => exact (show False from r).elim
  | some u => exact ⟨u, rfl, r⟩
section
variable {P : Program} {w : World} {H H' : Hp} {h h' : Heap} {a C dx : Addr} {fs fs' : List (Str × V)}
theorem ins_get (hok : HOk P w H h) (e : H a = some (.ins C dx fs)) : ∃ mA, ObjM h a dx C mA ∧ (∀ f, RelO (fs.lookup f) (mA f)) ∧ PySem.Within mA (fs.map (·.1)) ∧ fs.length ≤ 1000 ∧ H dx = some (.own a) := by
  obtain ⟨d, z, ne, ob, mA, n, r, q⟩ := (show ObjOk P w H h a (.ins C dx fs) from hok a _ e)
  exact ⟨mA, ⟨ob, n, ne⟩, r, q, z, d⟩
end

structure Cls (K : PySem.W.Frag) (C : Addr) : Prop where
  pg : PySem.W.plainGet K C Str.empty = true
  hd : PySem.W.hasDictIn K C = true
  po : PySem.W.plainOver K C = true
  sa : PySem.W.findIn K (.ref C) "__setattr__" = some (some (.builtin "object.__setattr__"))
theorem Cls.get {K : PySem.W.Frag} {C : Addr} (c : Cls K C) (f : Str) : PySem.W.plainGet K C f = true := c.pg
structure Con (K : PySem.W.Frag) (C : Addr) (f : Str) (v : V) (u : Value) : Prop where
  at_ : PySem.W.findIn K (.ref C) f = some (some u)
  rel : RelV v u
  get : PySem.W.specialIn K u "__get__" = some none
  cp : PySem.W.copiedNames.contains f = false
structure Meth (K : PySem.W.Frag) (C : Addr) (m : Str) (f : Addr) : Prop where
  at_ : PySem.W.findIn K (.ref C) m = some (some (.ref f))
  fn : PySem.W.isFn K (.ref f) = true
  kp : PySem.W.keepIn K (.ref f) = true

section
variable {X : Cx} {pins : List (Addr × Obj)} {σ : St} {H : Hp} {s : Shared} {a C dx : Addr} {fs : List (Str × V)} {f : Str} {v : V} {A : Around} {E : Value → Shared → Prop}

end

section
variable {X : Cx} {o e value : Expr} {f : Str} {pos pos' tpos : Pos} {ta tv : TE}
end

section
variable {X : Cx} {pins : List (Addr × Obj)} {σ : St} {H : Hp} {s : Shared} {A : Around} {E : Value → Shared → Prop} {Q : Value → Shared → Prop} {c : Value} {b : Bool}
inductive TyOf (K : PySem.W.Frag) (H : Hp) : V → Value → Prop where
  | non : TyOf K H .non (.type "NoneType")
  | bl (x : Bool) : TyOf K H (.bl x) (.type "bool")
  | int (i : Int) : TyOf K H (.int i) (.type "int")
  | str (x : Str) : TyOf K H (.str x) (.type "str")
  | flt (x : UInt64) : TyOf K H (.flt x) (.type "float")
  | lst {a : Addr} {xs : List V} (e : H a = some (.lst xs)) : TyOf K H (.ref a) (.type "list")
  | frz {a : Addr} {o : Obj} {xs : List V} (e : H a = some (.frz o (.lst xs))) : TyOf K H (.ref a) (.type "list")
  | tup {a : Addr} {xs : List V} (e : H a = some (.tup xs)) : TyOf K H (.ref a) (.type "tuple")
  | dK {a : Addr} {kvs : List (Key × V)} (e : H a = some (.dK kvs)) : TyOf K H (.ref a) (.type "dict")
  | dT {a : Addr} {kvs : List (List Key × V)} (e : H a = some (.dT kvs)) : TyOf K H (.ref a) (.type "dict")
  | ins {a C dx : Addr} {fs : List (Str × V)} (e : H a = some (.ins C dx fs)) (cl : Cls K C) (ha : PySem.W.findIn K (.ref C) "__class__" = some (some (.builtin "object.__class__")))
      (hn : PySem.W.specialIn K (.builtin "object.__class__") "__get__" = some (some (.builtin "getset_descriptor.__get__"))) (htk : PySem.W.takesIn K (.builtin "object.__class__") = some true)
      (hm : PySem.W.mroIn K C (.type "object") = some true) : TyOf K H (.ref a) (.ref C)
theorem isinst_ok {x : V} {u t : Value} (I : Inv X pins σ H s) (rx : RelV x u) (ty : TyOf X.K H x t) (e : PySem.W.kitOne X.K t c = some b) (h : ∀ tk, Q (.bool b) { s with toks := tk }) :
    wpAny (model X.prog X.w) A (call (.builtin "isinstance") [u, c]) Q E s := by
  cases ty with
  | non => cases (show u = Value.none from rx); exact PySem.W.kia_one PySem.W.kitx_none I.kIn True.intro e (fun z => nomatch z) h
  | bl y => cases (show u = Value.bool y from rx); exact PySem.W.kia_one PySem.W.kitx_bool I.kIn True.intro e (fun z => nomatch z) h
  | int i => obtain ⟨t, q⟩ := (show ∃ t, u = Value.int i t from rx); cases q; exact PySem.W.kia_one PySem.W.kitx_int I.kIn True.intro e (fun z => nomatch z) h
  | str y => obtain ⟨t, q⟩ := (show ∃ t, u = Value.str y t from rx); cases q; exact PySem.W.kia_one PySem.W.kitx_str I.kIn True.intro e (fun z => nomatch z) h
  | flt y => obtain ⟨t, q⟩ := (show ∃ t, u = Value.float y t from rx); cases q; exact PySem.W.kia_one PySem.W.kitx_float I.kIn True.intro e (fun z => nomatch z) h
  | @lst a xs ea =>
    cases (show u = Value.ref a from rx)
    obtain ⟨_, _, n, _, h1⟩ := (show ObjOk X.prog X.w H s.heap a (.lst xs) from I.hok a _ ea)
    exact PySem.W.kia_one PySem.W.kitx_list I.kIn ⟨_, h1, rfl⟩ e (fun z => nomatch z) h
  | @frz a ob xs ea =>
    cases (show u = Value.ref a from rx)
    obtain ⟨_, _, _, n, _, h1⟩ := (show ObjOk X.prog X.w H s.heap a (.frz ob (.lst xs)) from I.hok a _ ea)
    exact PySem.W.kia_one PySem.W.kitx_list I.kIn ⟨_, h1, rfl⟩ e (fun z => nomatch z) h
  | @tup a xs ea =>
    cases (show u = Value.ref a from rx)
    obtain ⟨_, _, _, p⟩ := (show ObjOk X.prog X.w H s.heap a (.tup xs) from I.hok a _ ea)
    obtain ⟨o, h1, h2, _⟩ := p
    exact PySem.W.kia_one PySem.W.kitx_tuple I.kIn ⟨o, h1, h2⟩ e (fun z => nomatch z) h
  | @dK a kvs ea =>
    cases (show u = Value.ref a from rx)
    obtain ⟨_, _, vs, _, p⟩ := (show ObjOk X.prog X.w H s.heap a (.dK kvs) from I.hok a _ ea)
    obtain ⟨o, es, ep, h1, h2, _⟩ := p
    exact PySem.W.kia_one PySem.W.kitx_dict I.kIn ⟨o, h1, h2.1⟩ e (fun z => nomatch z) h
  | @dT a kvs ea =>
    cases (show u = Value.ref a from rx)
    obtain ⟨_, _, xs, _, o, es, ep, h1, h2, _⟩ := (show ObjOk X.prog X.w H s.heap a (.dT kvs) from I.hok a _ ea)
    exact PySem.W.kia_one PySem.W.kitx_dict I.kIn ⟨o, h1, h2.1⟩ e (fun z => nomatch z) h
  | @ins a C dx fs ea cl ha hn htk hm =>
    cases (show u = Value.ref a from rx)
    obtain ⟨mA, O, _⟩ := ins_get I.hok ea
    obtain ⟨od, J, _⟩ := O.look
    exact PySem.W.kia_one (PySem.W.kitx_own (cl.get _) cl.hd ha hn htk hm) I.kIn J e (fun z => nomatch z) h
end
end L2

namespace L2
open PySem PySem.Spec PyProof.Rows

structure Room (k : Nat) (A : Around) : Prop where
  hd : A.handled = none
  dp : A.depth + 3 * k + 5 < recursionLimit
  un : A.units + 16 * k + 200 < cLine
  gd : A.guards = some []
theorem Room.mono {j k : Nat} {A : Around} (r : Room k A) (h : j ≤ k) : Room j A := ⟨r.hd, by have := r.dp; first | lia | omega, by have := r.un; first | lia | omega, r.gd⟩
theorem Room.deeper {k : Nat} {A : Around} (r : Room (k + 1) A) (env : Env) : Room k (A.deeper env) :=
  ⟨r.hd, by have := r.dp; show A.depth + 1 + 3 * k + 5 < _; first | lia | omega, by have := r.un; show A.units + 3 + 16 * k + 200 < _; first | lia | omega, r.gd⟩
theorem Room.depth {k : Nat} {A : Around} (r : Room k A) : A.depth < recursionLimit := by have := r.dp; first | lia | omega
theorem Room.units {k : Nat} {A : Around} (r : Room k A) : A.units + 64 < cLine := by have := r.un; first | lia | omega
noncomputable def tNil : TA := fun _ H Q => Q [] H
noncomputable def tCons (ta : TE) (tr : TA) : TA := fun σ H Q => ta σ H fun x H1 => tr σ H1 fun xs H2 => Q (x :: xs) H2
section
variable {X : Cx} {e : Expr} {es : List Expr} {te : TE} {t : TA} {pos : Pos}
theorem pa_nil : PA X [] tNil := ⟨fun _ _ _ _ H Q I h => Calls.spliced_nil ⟨[], H, I, .nil, h⟩⟩
theorem pa_cons (ha : PE X e te) (hr : PA X es t) (hs : starEach (e :: es) X.env = (false, eval e X.env) :: starEach es X.env := by rfl) : PA X (e :: es) (tCons te t) := by
  constructor
  intro pos pins s σ H Q I h
  rw [hs]
  show wpAny _ _ (spliced ((false, eval e X.env) :: backTo pos (starEach es X.env))) _ _ s
  refine Calls.spliced_cons (thn (ha pins s σ H _ I h) fun u s1 ⟨x, H1, I1, r1, q1⟩ => ?_)
  exact thn (hr pos pins s1 σ H1 _ I1 q1) fun us s2 ⟨xs, H2, I2, r2, q2⟩ => ⟨x :: xs, H2, I2, .cons r1 r2, q2⟩

noncomputable def tTup (t : TA) : TE := fun σ H Q => t σ H fun xs H1 => xs.length ≤ sizeLine ∧ ∀ p, H1 p = none → Q (.ref p) (upd H1 p (.tup xs))
noncomputable def tLst (t : TA) : TE := fun σ H Q => t σ H fun xs H1 => xs.length ≤ sizeLine ∧ ∀ p, H1 p = none → Q (.ref p) (upd H1 p (.lst xs))
theorem pe_tup {x1} (h : PA X es t) : PE X (.Tuple es x1 pos) (tTup t) := by
  constructor
  intro pins s σ H Q I hq
  refine wpAny_Tuple_spliced (thn (h pos pins s σ H _ I hq) fun us s1 ⟨xs, H1, I1, r, z, q⟩ => ⟨by rw [← r.length]; exact z, ?_⟩)
  have hf : H1 s1.heap.objs.size = none := I1.hok.fresh (Nat.le_refl _)
  refine ⟨.ref s1.heap.objs.size, upd H1 s1.heap.objs.size (.tup xs), I1.laid (t' := s1.toks) (fun b u e => Heap.get?_push_of_some _ e) (Nat.le_refl _) ?_, rfl, q _ hf⟩
  exact ⟨z, us, r, ⟨_, Heap.get?_push_size _ rfl, rfl, _, rfl⟩⟩
theorem pe_lst (h : PA X es t) : PE X (.List es pos) (tLst t) := by
  constructor
  intro pins s σ H Q I hq
  refine wpAny_List_spliced (thn (h pos pins s σ H _ I hq) fun us s1 ⟨xs, H1, I1, r, z, q⟩ => ⟨by rw [← r.length]; exact z, ?_⟩)
  have hf : H1 s1.heap.objs.size = none := I1.hok.fresh (Nat.le_refl _)
  refine ⟨.ref s1.heap.objs.size, upd H1 s1.heap.objs.size (.lst xs), I1.laid (t' := s1.toks) (fun b u e => Heap.get?_push_of_some _ e) (Nat.le_refl _) ?_, rfl, q _ hf⟩
  exact ⟨z, us, 0, r, Heap.get?_push_size _ rfl⟩
end

noncomputable abbrev Sp := List V → Hp → VK → XK → Prop
noncomputable abbrev CXT := List Env → Hp → Shared → XK → Value → Shared → Prop

structure Env0 (P : Program) (w : World) (K : PySem.W.Frag) (mg : Str → Option Value) (base : Heap) (A : Around) (outer : List Env) (s : Shared) (H : Hp) : Prop where
  frames : A.frames = some outer
  mod : Mod K mg base
  bs : ∀ b o, base.get? b = some o → s.heap.get? b = some o ∧ H b = none
  bsz : base.objs.size ≤ s.heap.objs.size
  funs : s.heap.FunFrames base outer
  frf : ∀ b ∈ frs outer, H b = none
  hok : HOk P w H s.heap
  bare : AllBare s.gens
inductive I_CE (outer : List Env) (P : Program) (w : World) (H : Hp) (s : Shared) (Q : VK) (u : Value) (s' : Shared) : Prop
  | mk (v : _) (H' : _) (q0 : s'.os = s.os) (q1 : AllBare s'.gens) (q2 : Un (frs outer) [] H H' s.heap s'.heap) (q3 : HOk P w H' s'.heap) (q4 : RelV v u) (q5 : Q v H') : I_CE outer P w H s Q u s'
noncomputable def CE (outer : List Env) (P : Program) (w : World) (H : Hp) (s : Shared) (Q : VK) (u : Value) (s' : Shared) : Prop := I_CE outer P w H s Q u s'
noncomputable def CR (CX : CXT) (outer : List Env) (P : Program) (w : World) (H : Hp) (s : Shared) (Q : VK) (E : XK) (r : Result) (s' : Shared) : Prop :=
  match r with
  | .ok (.ret u) => CE outer P w H s Q u s'
  | .ok _ => False
  | .error e => CX outer H s E e s'
structure FnOk (P : Program) (w : World) (K : PySem.W.Frag) (mg : Str → Option Value) (base : Heap) (CX : CXT) (k : Nat) (f : Addr) (fd : FuncData) (ps : List Str) (sp : Sp) : Prop where
  len : ∀ vs H Q E, sp vs H Q E → vs.length = ps.length
  run : ∀ (A : Around) (outer : List Env) (s : Shared) (H : Hp) (args : Args) (us : List Value) (vs : List V) (Q : VK) (E : XK), Room k A → Env0 P w K mg base A outer s H → BindsTo s fd args (ps.zip us) → Vals vs us → sp vs H Q E →
    codeAny (model P w) A (.call (.ref f) args) (CR CX outer P w H s Q E) s
section
variable {X : Cx} {pins : List (Addr × Obj)} {σ : St} {H : Hp} {s s' : Shared}
theorem Inv.env0 (I : Inv X pins σ H s) : Env0 X.prog X.w X.K X.mg X.base X.A X.stack s H :=
  ⟨I.ok.frames, I.ok.mod, I.bs, Nat.le_trans I.ok.bsz I.sz, I.stack, I.stkFree, I.hok, I.bare⟩
theorem Inv.after {Q : VK} {u : Value} (I : Inv X pins σ H s) (h : CE X.stack X.prog X.w H s Q u s') : EP X pins σ Q u s' := by
  obtain ⟨v, H', os, bare, un, hok, r, q⟩ := h
  obtain ⟨hh, g, d, t, os'⟩ := s'
  obtain rfl : os' = s.os := os
  exact ⟨v, H', I.call (h' := hh) (g' := g) (d' := d) (t' := t) (ch := []) un hok bare (fun b z => absurd z (by simp)), r, q⟩
end

noncomputable def tCall (sp : Sp) (dvs : List V) (E : XK) (t : TA) : TE := fun σ H Q => t σ H fun vs H1 => sp (vs ++ dvs) H1 Q E
noncomputable def Binds (K : PySem.W.Frag) (fd : FuncData) (ps : List Str) (ds : List Value) : Prop :=
  ∀ (s : Shared) (us : List Value), K.In s.heap → (us ++ ds).length = ps.length → BindsTo s fd ⟨us, []⟩ (ps.zip (us ++ ds))
theorem Binds.all {K : PySem.W.Frag} {fd : FuncData} {ps : List Str} (h : ∀ us : List Value, us.length = ps.length → bindArgs fd ⟨us, []⟩ = pure (ps.zip us)) : Binds K fd ps [] := fun s us _ hl => by
  rw [List.append_nil] at hl ⊢
  exact .of_eq (h us hl)

noncomputable def Passes (CX : CXT) (X : Cx) (E : XK) : Prop := ∀ (pins : List (Addr × Obj)) (σ : St) (H : Hp) (s : Shared) (e : Value) (s' : Shared), Inv X pins σ H s → CX X.stack H s E e s' → X.xe e s'

section
variable {X : Cx} {CX : CXT} {k : Nat} {f C : Addr} {fd : FuncData} {ps : List Str} {sp : Sp} {dvs : List V} {ds : List Value} {E : XK} {x m : Str} {p pos apos : Pos} {e o : Expr} {es : List Expr} {ta : TE} {t : TA}

theorem run_fn {pins : List (Addr × Obj)} {σ : St} {H : Hp} {s : Shared} {Q : VK} {us : List Value} {vs : List V} (F : FnOk X.prog X.w X.K X.mg X.base CX k f fd ps sp) (hr : Room k X.A) (hb : Binds X.K fd ps ds) (hd : Vals dvs ds) (hx : Passes CX X E)
    (I : Inv X pins σ H s) (r : Vals vs us) (h : sp (vs ++ dvs) H Q E) : wpAny (model X.prog X.w) X.A (call (.ref f) us) (EP X pins σ Q) X.xe s := by
  have r2 : Vals (vs ++ dvs) (us ++ ds) := r.append hd
  have hl : (us ++ ds).length = ps.length := by rw [← r2.length]; exact F.len _ _ _ _ h
  refine wpAny_call (codeAny_mono (F.run X.A X.stack s H ⟨us, []⟩ (us ++ ds) (vs ++ dvs) Q E hr I.env0 (hb s us I.kIn hl) r2 h) fun r s' hq => ?_)
  cases r with
  | error e => exact hx pins σ H s e s' I hq
  | ok fl =>
    cases fl with
    | ret u => exact I.after hq
    | next => exact False.elim hq
    | brk => exact False.elim hq
    | cont => exact False.elim hq

theorem pe_call (F : FnOk X.prog X.w X.K X.mg X.base CX k f fd ps sp) (hr : Room k X.A) (hg : Gl X x) (hm : X.mg x = some (.ref f)) (hk : PySem.W.keepIn X.K (.ref f) = true) (hb : Binds X.K fd ps ds) (hd : Vals dvs ds) (hx : Passes CX X E)
    (ha : PA X (e :: es) t) (hdb : (x == ("__debug__" : Str)) = false := by decide) (he : starEach (e :: es) X.env = (false, eval e X.env) :: starEach es X.env := by rfl) (hpl : (backTo pos (starEach es X.env)).any (·.1) = false := by rfl) :
    PE X (.Call (.Name x p) (e :: es) [] pos) (tCall sp dvs E t) := by
  constructor
  intro pins s σ H Q I h
  refine wpAny_Call_Name_kw (ld_glob I hg hm ?_ hdb)
  refine PySem.W.callWith_K (h₀ := X.base) I.ok.mod.kin hk (thn (ha pos pins s σ H _ I h) fun us s1 ⟨vs, H1, I1, r, q⟩ => ⟨I1.kIn, ?_⟩) he hpl
  exact run_fn F hr hb hd hx I1 r q
structure Mk (K : PySem.W.Frag) (C f : Addr) : Prop where
  makes : PySem.W.makesIn K C = true
  init : PySem.W.findIn K (.ref C) "__init__" = some (some (.ref f))
  fn : PySem.W.isFn K (.ref f) = true
  kp : PySem.W.keepIn K (.ref C) = true

end

structure PK (X : Cx) (kws : List Keyword) (t : TA) : Prop where
  run :
    ∀ (pos : Pos) (pins : List (Addr × Obj)) (s : Shared) (σ : St) (H : Hp) (Q : List V → Hp → Prop), Inv X pins σ H s → t σ H Q → wpAny (model X.prog X.w) X.A (evalAll ((backToKw pos (keywordEach kws X.env)).map (·.2))) (AP X pins σ Q) X.xe s
instance {X : Cx} {kws : List Keyword} {t : TA} : CoeFun (PK X kws t) (fun _ =>
  ∀ (pos : Pos) (pins : List (Addr × Obj)) (s : Shared) (σ : St) (H : Hp) (Q : List V → Hp → Prop), Inv X pins σ H s → t σ H Q → wpAny (model X.prog X.w) X.A (evalAll ((backToKw pos (keywordEach kws X.env)).map (·.2))) (AP X pins σ Q) X.xe s) := ⟨fun h => h.run⟩
section
variable {X : Cx} {CX : CXT} {k : Nat} {f C : Addr} {fd : FuncData} {ps ks : List Str} {sp : Sp} {E : XK} {x m : Str} {p pos apos kpos : Pos} {e o : Expr} {es : List Expr} {kws : List Keyword} {te ta : TE} {t tk : TA} {nm : Option Str}
structure KBinds (K : PySem.W.Frag) (fd : FuncData) (ps ks : List Str) (g : List Value → List Value → List Value) (gV : List V → List V → List V) : Prop where
  to : ∀ (s : Shared) (us ws : List Value), K.In s.heap → (g us ws).length = ps.length → BindsTo s fd ⟨us, ks.zip ws⟩ (ps.zip (g us ws))
  rel : ∀ {vs : List V} {us : List Value} {zs : List V} {ws : List Value}, Vals vs us → Vals zs ws → Vals (gV vs zs) (g us ws)
variable {g : List Value → List Value → List Value} {gV : List V → List V → List V}
end

structure FnScope (N P : List Str) (sc : Scope) : Prop where
  kind : sc.kind = .function
  co : sc.isCoroutine = false
  gen : sc.isGenerator = false
  nd : N.Nodup
  pre : N.take P.length = P
  par : ∀ x ∈ P, sc.names.lookup x = some .local ∨ sc.names.lookup x = some .cell
  nofree : ∀ y ∈ sc.names, y.2 ≠ .free

theorem bindL_out {kindOf : Str → Option NameKind} {x : Str} : ∀ {binds : List (Str × Value)} {m : Str → Option Value}, (∀ v, (x, v) ∉ binds) → bindL kindOf binds m x = m x
  | [], _, _ => rfl
  | (n, v) :: r, m, h => by
    unfold bindL
    rw [bindL_out fun w hw => h w (List.mem_cons_of_mem _ hw)]
    split
    · have : x ≠ n := by rintro rfl; exact h v List.mem_cons_self
      simp [this]
    · rfl
theorem bindC_out {kindOf : Str → Option NameKind} {x : Str} : ∀ {binds : List (Str × Value)} {m : Str → Option Value}, (∀ v, (x, v) ∉ binds) → bindC kindOf binds m x = m x
  | [], _, _ => rfl
  | (n, v) :: r, m, h => by
    unfold bindC
    rw [bindC_out fun w hw => h w (List.mem_cons_of_mem _ hw)]
    split
    · rfl
    · have : x ≠ n := by rintro rfl; exact h v List.mem_cons_self
      simp [this]
theorem bindL_get {kindOf : Str → Option NameKind} {x : Str} {v : Value} : ∀ {P : List Str} {vs : List Value} {i : Nat} {m : Str → Option Value}, P.Nodup → P[i]? = some x → vs[i]? = some v → kindOf x = some .local →
    bindL kindOf (P.zip vs) m x = some v
  | [], _, _, _, _, h, _, _ => by simp at h
  | _ :: _, [], _, _, _, _, h, _ => by simp at h
  | p :: P, w :: vs, 0, m, nd, h1, h2, hk => by
    simp at h1 h2; subst h1; subst h2
    show bindL kindOf ((p, w) :: P.zip vs) m p = _
    unfold bindL
    rw [bindL_out fun v hv => (List.nodup_cons.mp nd).1 (List.of_mem_zip hv).1, if_pos hk]
    simp
  | p :: P, w :: vs, i + 1, m, nd, h1, h2, hk => by
    show bindL kindOf ((p, w) :: P.zip vs) m x = _
    unfold bindL
    exact bindL_get (i := i) (List.nodup_cons.mp nd).2 (by simpa using h1) (by simpa using h2) hk
theorem bindC_get {kindOf : Str → Option NameKind} {x : Str} {v : Value} : ∀ {P : List Str} {vs : List Value} {i : Nat} {m : Str → Option Value}, P.Nodup → P[i]? = some x → vs[i]? = some v → kindOf x ≠ some .local →
    bindC kindOf (P.zip vs) m x = some v
  | [], _, _, _, _, h, _, _ => by simp at h
  | _ :: _, [], _, _, _, _, h, _ => by simp at h
  | p :: P, w :: vs, 0, m, nd, h1, h2, hk => by
    simp at h1 h2; subst h1; subst h2
    show bindC kindOf ((p, w) :: P.zip vs) m p = _
    unfold bindC
    rw [bindC_out fun v hv => (List.nodup_cons.mp nd).1 (List.of_mem_zip hv).1, if_neg hk]
    simp
  | p :: P, w :: vs, i + 1, m, nd, h1, h2, hk => by
    show bindC kindOf ((p, w) :: P.zip vs) m x = _
    unfold bindC
    exact bindC_get (i := i) (List.nodup_cons.mp nd).2 (by simpa using h1) (by simpa using h2) hk

noncomputable def start (N : List Str) (vs : List V) : St := vs.map some ++ List.replicate (N.length - vs.length) none

noncomputable def cxOf (CX : CXT) (P : Program) (w : World) (K : PySem.W.Frag) (mg : Str → Option Value) (base : Heap) (N : List Str) (qual : Str) (scope : Scope) (f : Addr) (cd : Value) (A : Around) (outer : List Env) (s : Shared) (H : Hp) (E : XK) : Cx where
  prog := P
  w := w
  K := K
  mg := mg
  base := base
  A := A.deeper (envOfC qual scope s.heap.objs.size f cd)
  N := N
  s₀ := s
  H₀ := H
  env := envOfC qual scope s.heap.objs.size f cd
  outer := outer
  stack := envOfC qual scope s.heap.objs.size f cd :: outer
  ex := []
  calm := true
  fn := fun _ => true
  pn := []
  xe := fun e s' => wpAny (model P w) (A.deeper (envOfC qual scope s.heap.objs.size f cd)) (leaving (envOfC qual scope s.heap.objs.size f cd) e) (fun _ s'' => CX outer H s E e s'') (fun e' s'' => CX outer H s E e' s'') s'

theorem cell_has {sc : Scope} {n : Nat} {x : Str} (h : sc.names.lookup x = some .cell) : ∃ c, (cellsFrom n sc.names []).lookup x = some c := by
  have q := PySem.W.cellsFrom_some sc.names n [] (.inl h)
  exact Option.isSome_iff_exists.mp q

theorem inv_start {CX : CXT} {P : Program} {w : World} {K : PySem.W.Frag} {mg : Str → Option Value} {base : Heap} {N ps : List Str} {qual : Str} {scope : Scope} {f : Addr} {cd : Value} {A : Around} {outer : List Env} {s s1 : Shared} {H : Hp} {E : XK} {us : List Value} {vs : List V}
    (S : FnScope N ps scope) (hd : A.handled = none) (e0 : Env0 P w K mg base A outer s H) (hl : vs.length = ps.length) (r : Vals vs us)
    (x : InCallC s s.heap.objs.size (bindL (envOfC qual scope s.heap.objs.size f cd).kindOf (ps.zip us) fun _ => none) (cellsFrom (s.heap.objs.size + 1) scope.names []) (bindC (envOfC qual scope s.heap.objs.size f cd).kindOf (ps.zip us) fun _ => none) s1) :
    Inv (cxOf CX P w K mg base N qual scope f cd A outer s H E) [] (start N vs) H s1 := by
  have hpl : ps.length ≤ N.length := by have := congrArg List.length S.pre; rw [List.length_take] at this; first | lia | omega
  obtain ⟨h1, tk, rfl, hk⟩ := x.done
  have noA : ∀ b : Addr, b ∉ (cxOf CX P w K mg base N qual scope f cd A outer s H E).ex := fun b z => absurd (show b ∈ ([] : List Addr) from z) (by simp)
  refine ⟨⟨e0.mod, S.kind, rfl, rfl, Nat.le_refl _, fun y z c h1 h2 => ?_, fun y hy => ?_, fun y c _ h => ?_, fun _ => hd, Around.frames_deeper e0.frames, .inr ⟨rfl, rfl⟩, fun b z => absurd z (noA b), e0.bs, e0.bsz, fun b _ _ => noA b, fun b z => absurd z (noA b), e0.funs, e0.frf⟩,
    rfl, e0.bare, Un.kept hk, ⟨_, x.toInCall.ns, fun i y v h1 h2 h3 => ?_⟩, fun y c h => ⟨_, x.cell y c h⟩, e0.hok.fresh (Nat.le_refl _), fun y c h => ?_, fun p hp => absurd (show p ∈ ([] : List (Addr × Obj)) from hp) (by simp), e0.hok.kept hk, ?_⟩
  · exact name_of_addr x.apart (PySem.mem_of_lookup h1) (PySem.mem_of_lookup h2)
  · have hy : scope.names.lookup y = some .cell ∨ scope.names.lookup y = some .free := hy
    rcases hy with hy | hy
    · exact cell_has hy
    · exact absurd rfl (S.nofree _ (PySem.mem_of_lookup hy))
  · exact Nat.le_of_lt (x.above y c (PySem.mem_of_lookup h))
  · have hi : i < vs.length := by
      unfold start at h2
      by_cases hi : i < vs.length
      · exact hi
      · rw [List.getElem?_append_right (by simpa using hi)] at h2
        rw [List.getElem?_replicate] at h2
        split at h2 <;> cases h2
    have ha : vs[i]? = some v := by
      unfold start at h2
      rw [List.getElem?_append_left (by simpa using hi), List.getElem?_map] at h2
      cases e : vs[i]? with
      | none => rw [e] at h2; cases h2
      | some a => rw [e] at h2; cases h2; rfl
    obtain ⟨u, hu, rv⟩ := r.get ha
    have hp : ps[i]? = some y := by
      rw [← S.pre, List.getElem?_take_of_lt (by first | lia | omega)]; exact h1
    have ndP : ps.Nodup := by rw [← S.pre]; exact S.nd.sublist (List.take_sublist _ _)
    refine ⟨u, rv, ?_⟩
    rcases S.par y (List.mem_of_getElem? hp) with k | k
    · exact .inl ⟨k, bindL_get ndP hp hu k⟩
    · obtain ⟨c, e⟩ := cell_has (n := s.heap.objs.size + 1) k
      refine .inr ⟨.inl k, c, e, ?_⟩
      have q := x.cell y c e
      rw [bindC_get ndP hp hu (by show scope.names.lookup y ≠ _; rw [k]; decide)] at q
      exact q
  · exact e0.hok.fresh (Nat.le_of_lt (x.above y c (PySem.mem_of_lookup h)))
  · unfold start
    show _ = N.length
    rw [List.length_append, List.length_map, List.length_replicate]
    first | lia | omega

theorem fn_of {CX : CXT} {P : Program} {w : World} {K : PySem.W.Frag} {mg : Str → Option Value} {base : Heap} {k : Nat} {f : Addr} {name qual : Str} {params : Arguments} {body : List Stmt} {scope : Scope} {dV kV doc pm cdv ct oc : Value} {an od : Option Addr}
    {osl : Array (Option Value)} {N ps : List Str} {sp : Sp} (lk : K.lookup f = some ⟨oc, od, .func (PySem.W.fnOf name qual params body scope dV kV doc pm an cdv ct), osl⟩) (hcd : PySem.W.codeIn K cdv qual = true) (S : FnScope N ps scope)
    (len : ∀ vs H Q E, sp vs H Q E → vs.length = ps.length)
    (hbody : ∀ (A : Around) (outer : List Env) (s : Shared) (H : Hp) (vs : List V) (Q : VK) (E : XK), Room k (A.deeper (envOfC qual scope s.heap.objs.size f cdv)) → sp vs H Q E →
      ∃ t, PSs (cxOf CX P w K mg base N qual scope f cdv A outer s H E) body t ∧ t { nx := fun _ H' => Q .non H', rt := Q } (start N vs) H) :
    FnOk P w K mg base CX (k + 1) f (PySem.W.fnOf name qual params body scope dV kV doc pm an cdv ct) ps sp := by
  refine ⟨len, fun A outer s H args us vs Q E hr e0 hb r hsp => ?_⟩
  have hl := len _ _ _ _ hsp
  have KX : K.In s.heap := e0.mod.kin.keeps fun b o e => (e0.bs b o e).1
  have lim : s.heap.NoLimit := e0.mod.nolimit.keeps fun b o e => (e0.bs b o e).1
  have hkind : ∀ y ∈ ps.zip us, scope.names.lookup y.1 = some .local ∨ (scope.names.lookup y.1 = some .cell ∧ ((cellsFrom (s.heap.objs.size + 1) scope.names []).lookup y.1).isSome = true) := fun ⟨n, v⟩ hy => by
    rcases S.par n (List.of_mem_zip hy).1 with q | q
    · exact .inl q
    · exact .inr ⟨q, PySem.W.cellsFrom_some _ _ _ (.inl q)⟩
  refine codeAny_call_function hr.depth (KX _ _ lk) rfl S.co S.gen rfl (PySem.W.codeRec_of KX hcd) (hb _ _ _ _ ?_)
  refine wpAny_newFunctionEnv_cells S.kind hkind fun env he s1 x => ?_
  subst he
  refine ⟨lim.keeps x.toInCall.keep, codeAny_func ?_⟩
  obtain ⟨t, ht, hq⟩ := hbody A outer s H vs Q E (hr.deeper _) hsp
  have I : Inv (cxOf CX P w K mg base N qual scope f cdv A outer s H E) [] (start N vs) H s1 := inv_start S hr.hd e0 hl r x
  refine wpAny_mono (ht [] s1 (start N vs) H _ I hq) (fun fl s' hs => ?_) fun e s' hs => hs
  have fin : ∀ {σ' : St} {H' : Hp} {v : V} {u : Value}, Inv (cxOf CX P w K mg base N qual scope f cdv A outer s H E) [] σ' H' s' → RelV v u → Q v H' → CE outer P w H s Q u s' :=
    fun {σ' H' v u} J rv q => ⟨v, H', J.os, J.bare, J.base, J.hok, rv, q⟩
  cases fl with
  | ret u =>
    obtain ⟨v, σ', H', J, rv, q⟩ := hs
    exact fin J rv q
  | next =>
    obtain ⟨σ', H', J, q⟩ := hs
    exact fin (v := V.non) (u := Value.none) J rfl q
  | brk =>
    obtain ⟨_, _, _, q⟩ := hs
    exact False.elim q
  | cont =>
    obtain ⟨_, _, _, q⟩ := hs
    exact False.elim q
end L2

namespace L2
open PySem PySem.Spec PyProof.Rows
section
variable {X : Cx} {x : Str} {p pos : Pos} {e : Expr} {es : List Expr} {t : TA} {id T : String} {r : List V → Hp → VK → Prop}

noncomputable def tCB (r : List V → Hp → VK → Prop) (t : TA) : TE := fun σ H Q => t σ H fun vs H1 => r vs H1 Q
theorem pe_callB (hc : CallR X (.builtin id) r) (hg : Gl X x) (hm : X.mg x = none) (hv : bootBuiltins x = some (.builtin id)) (ha : PA X (e :: es) t) (hn : x ≠ "__name__" := by decide) (hdb : (x == ("__debug__" : Str)) = false := by decide)
    (he : starEach (e :: es) X.env = (false, eval e X.env) :: starEach es X.env := by rfl) (hpl : (backTo pos (starEach es X.env)).any (·.1) = false := by rfl) : PE X (.Call (.Name x p) (e :: es) [] pos) (tCB r t) := by
  constructor
  intro pins s σ H Q I h
  refine wpAny_Call_Name_kw (ld_blt I hg hm hv ?_ hn hdb)
  exact PyProof.Rows.callWith_builtin1 (thn (ha pos pins s σ H _ I h) fun us s1 ⟨vs, H1, I1, r1, q1⟩ => hc pins s1 σ H1 vs us Q I1 r1 q1) he hpl
theorem pe_callTy (hc : CallR X (.type T) r) (hg : Gl X x) (hm : X.mg x = none) (hv : bootBuiltins x = some (.type T)) (ha : PA X (e :: es) t) (hn : x ≠ "__name__" := by decide) (hdb : (x == ("__debug__" : Str)) = false := by decide)
    (he : starEach (e :: es) X.env = (false, eval e X.env) :: starEach es X.env := by rfl) (hpl : (backTo pos (starEach es X.env)).any (·.1) = false := by rfl) : PE X (.Call (.Name x p) (e :: es) [] pos) (tCB r t) := by
  constructor
  intro pins s σ H Q I h
  refine wpAny_Call_Name_kw (ld_blt I hg hm hv ?_ hn hdb)
  exact PyProof.Rows.callWith_type1 (thn (ha pos pins s σ H _ I h) fun us s1 ⟨vs, H1, I1, r1, q1⟩ => hc pins s1 σ H1 vs us Q I1 r1 q1) he hpl
end
end L2

namespace HT
open PySem PyProof.Rows

section
open PySem.SeqAt
open PySem.AutoSeq1 (wpAny_loadPart')
open PySem.MeetsSeq PySem.MeetsSeq2 PySem.MeetsSeq3

end

section
variable {prog : Program} {w : World} {A : Around} {E : Value → Shared → Prop} {s : Shared}

noncomputable def sIx (n d : Nat) : Option Int → Nat
  | none => d
  | some v => if v < 0 then (v + (n : Int)).toNat else min v.toNat n
theorem sIx_none (n d : Nat) : sIx n d none = d := rfl
theorem sIx_nat (n d k : Nat) : sIx n d (some (k : Int)) = min k n := by
  show (if (k : Int) < 0 then ((k : Int) + (n : Int)).toNat else min (k : Int).toNat n) = min k n
  rw [if_neg (by first | lia | omega), Int.toNat_natCast]
theorem sIx_le (n d : Nat) (hd : d ≤ n) (o : Option Int) : sIx n d o ≤ n := by
  cases o with
  | none => exact hd
  | some v =>
    show (if v < 0 then (v + (n : Int)).toNat else min v.toNat n) ≤ n
    by_cases hv : v < 0
    · rw [if_pos hv]; first | lia | omega
    · rw [if_neg hv]; exact Nat.min_le_right _ _
theorem clip_eq (v : Int) (n d : Nat) : (if v < 0 then max (v + (n : Int)) 0 else min v (n : Int)) = ((sIx n d (some v) : Nat) : Int) := by
  show (if v < 0 then max (v + (n : Int)) 0 else min v (n : Int)) = (((if v < 0 then (v + (n : Int)).toNat else min v.toNat n) : Nat) : Int)
  by_cases hv : v < 0
  · simp only [if_pos hv]; first | lia | omega
  · simp only [if_neg hv]; first | lia | omega
theorem adjust_gen (lo hi : Option Int) (n : Nat) : Builtin.Slice.sliceAdjust lo hi 1 (n : Int) = (((sIx n 0 lo : Nat) : Int), ((sIx n n hi : Nat) : Int)) := by
  have h1 : ¬ ((1 : Int) < 0) := by first | lia | omega
  unfold Builtin.Slice.sliceAdjust
  simp only [h1, if_false]
  refine Prod.ext ?_ ?_
  · cases lo with
    | none => rfl
    | some v => exact clip_eq v n 0
  · cases hi with
    | none => rfl
    | some v => exact clip_eq v n n
theorem places_gen (i j : Nat) : Builtin.Slice.slicePlaces (i : Int) (j : Int) 1 = j - i := by
  unfold Builtin.Slice.slicePlaces
  have h1 : (1 : Int) > 0 := by first | lia | omega
  simp only [h1, if_true, Int.ediv_one]
  split <;> first | lia | omega
theorem slicePart_ {v : Value} {o : Option Int} {Q : Option Int → Shared → Prop} (p : IsPart v o) (h : Q o s) : wpAny (model prog w) A (Builtin.Slice.slicePartIndex v) Q E s := by
  cases p with
  | none => exact slicePart_none h
  | int i t => exact slicePart_int h
theorem sliceApplied_gen {sl : Addr} {vl vu : Value} {lo hi : Option Int} {n : Nat} {Q : Int × Int × Nat → Shared → Prop} (hs : s.heap.IsSliceOf sl vl vu .none) (pl : IsPart vl lo) (pu : IsPart vu hi)
    (h : Q (((sIx n 0 lo : Nat) : Int), 1, sIx n n hi - sIx n 0 lo) s) : wpAny (model prog w) A (Builtin.Slice.sliceApplied (.ref sl) (pure (n : Int))) Q E s := by
  obtain ⟨os, hos, hcs, hds⟩ := id hs
  unfold Builtin.Slice.sliceApplied Builtin.Slice.sliceFields
  refine wpAny_bind (wpAny_bind (wpAny_field hos hds (x := vl) rfl (wpAny_bind (wpAny_field hos hds (x := vu) rfl (wpAny_bind (wpAny_field hos hds (x := .none) rfl (wpAny_pure ?_)))))))
  refine wpAny_bind (slicePart_none ?_)
  show wpAny _ _ (if ((1 : Int) == 0) = true then _ else _) _ _ s
  rw [if_neg (by decide)]
  refine wpAny_bind (slicePart_ pl (wpAny_bind (slicePart_ pu (wpAny_bind (wpAny_pure ?_)))))
  show wpAny _ _ (match Builtin.Slice.sliceAdjust lo hi 1 (n : Int) with | (lo, hi) => pure (lo, (1 : Int), Builtin.Slice.slicePlaces lo hi 1)) _ _ s
  rw [adjust_gen lo hi n]
  show wpAny _ _ (pure (((sIx n 0 lo : Nat) : Int), (1 : Int), Builtin.Slice.slicePlaces ((sIx n 0 lo : Nat) : Int) ((sIx n n hi : Nat) : Int) 1)) _ _ s
  rw [places_gen]
  exact wpAny_pure h
theorem pick_gen (xs : Array Value) (i k : Nat) : ((List.range k).filterMap fun (m : Nat) => xs[((i : Int) + (m : Int) * 1).toNat]?).toArray = ((xs.toList.drop i).take k).toArray := by
  have e : (fun (m : Nat) => xs[((i : Int) + (m : Int) * 1).toNat]?) = fun m => xs[i + m]? := by
    funext m
    have : ((i : Int) + (m : Int) * 1).toNat = i + m := by first | lia | omega
    rw [this]
  rw [e]
  have := pick_run xs i k
  rw [List.filterMap_map] at this
  have e2 : ((fun x => xs[x]?) ∘ fun x => i + x) = fun m => xs[i + m]? := rfl
  rw [e2] at this
  rw [this]

theorem getItem_tuple_cut {t sl : Addr} {items : Array Value} {vl vu : Value} {lo hi : Option Int} {Q : Value → Shared → Prop} (ht : IsTup s.heap t items) (hs : s.heap.IsSliceOf sl vl vu .none) (pl : IsPart vl lo) (pu : IsPart vu hi)
    (hw : ¬ (sIx items.size 0 lo = 0 ∧ sIx items.size items.size hi = items.size))
    (h : Q (.ref s.heap.objs.size) { s with heap := s.heap.push { cls := .type "tuple", data := .seq ((items.toList.drop (sIx items.size 0 lo)).take (sIx items.size items.size hi - sIx items.size 0 lo)).toArray } })
    (hsz : items.size ≤ sizeLine) : wpAny (model prog w) A (getItem (.ref t) (.ref sl)) Q E s := by
  have htake : sizeOk (.seq ((items.toList.drop (sIx items.size 0 lo)).take (sIx items.size items.size hi - sIx items.size 0 lo)).toArray) := by
    show ((items.toList.drop (sIx items.size 0 lo)).take (sIx items.size items.size hi - sIx items.size 0 lo)).toArray.size ≤ sizeLine
    rw [List.size_toArray, List.length_take, List.length_drop, Array.length_toList]
    first | lia | omega
  have hj : sIx items.size items.size hi ≤ items.size := sIx_le _ _ (Nat.le_refl _) hi
  obtain ⟨os, hos, hcs, hds⟩ := id hs
  have hTs : s.TypeIs (.ref sl) "slice" := ⟨os, hos, hcs⟩
  unfold getItem
  try with_reducible refine wpAny_holding ?_
  first | refine wpAny_bind (wpAny_pure ?_) | skip
  refine wpAny_bind (wpAny_sequenceKey ht.typeIs (by decide) ?_)
  refine wpAny_bind (wpAny_callSpecial?_slot (name := Str.ofString "__getitem__") ht.typeIs PyProof.Rows.slot_tuple_getitem
    (wpAny_call_entry PyProof.Rows.slot_tuple_getitem ht.typeIs entry_tuple_getitem ?_ (args_tuple_getitem _ _)))
  show wpAny _ _ (Builtin.Tuple.tupleItemsOf (.ref t) >>= _) _ _ s
  refine wpAny_bind (tupleItemsOf_ ht ?_)
  refine wpAny_bind (wpAny_typeOf hTs ?_)
  rw [if_pos (by decide)]
  refine wpAny_bind (sliceApplied_gen hs pl pu ?_)
  have hno : ¬ ((((sIx items.size 0 lo : Nat) : Int) == 0 && (1 : Int) == 1 && (sIx items.size items.size hi - sIx items.size 0 lo) == items.size) = true) := by
    intro q
    rw [Bool.and_eq_true, Bool.and_eq_true] at q
    have q1 : ((sIx items.size 0 lo : Nat) : Int) = 0 := eq_of_beq q.1.1
    have q2 : sIx items.size items.size hi - sIx items.size 0 lo = items.size := eq_of_beq q.2
    exact hw ⟨by first | lia | omega, by first | lia | omega⟩
  show wpAny _ _ (if (((sIx items.size 0 lo : Nat) : Int) == 0 && (1 : Int) == 1 && (sIx items.size items.size hi - sIx items.size 0 lo) == items.size) = true then _ else _) _ _ s
  rw [if_neg hno, pick_gen]
  first
    | exact wpAny_bind (m := Builtin.Tuple.tupleExact _) (wpAny_newObj_type (wpAny_pure ⟨_, rfl, wpAny_pure h⟩) htake)
    | exact wpAny_bind (m := Builtin.Tuple.tupleExact _) (wpAny_newObj_type (wpAny_bind (wpAny_pure (wpAny_pure ⟨_, rfl, wpAny_pure h⟩))) htake)
    | exact wpAny_bind (wpAny_bind (m := Builtin.Tuple.tupleExact _) (wpAny_newObj_type (wpAny_pure (wpAny_pure ⟨_, rfl, wpAny_pure h⟩)) htake))
    | exact wpAny_bind (wpAny_bind (m := Builtin.Tuple.tupleExact _) (wpAny_newObj_type (wpAny_pure ⟨_, rfl, wpAny_pure h⟩) htake))
end
end HT

namespace L2
open PySem PySem.Spec PyProof.Rows

noncomputable abbrev TO := St → Hp → (Option Int → Hp → Prop) → Prop
structure PO (X : Cx) (e : Option Expr) (t : TO) : Prop where
  run :
    ∀ (pins : List (Addr × Obj)) (s : Shared) (σ : St) (H : Hp) (Q : Option Int → Hp → Prop), Inv X pins σ H s → t σ H Q →
      wpAny (model X.prog X.w) X.A (evalPart e X.env) (fun u s' => ∃ o H', Inv X pins σ H' s' ∧ IsPart u o ∧ Q o H') X.xe s
instance {X : Cx} {e : Option Expr} {t : TO} : CoeFun (PO X e t) (fun _ =>
  ∀ (pins : List (Addr × Obj)) (s : Shared) (σ : St) (H : Hp) (Q : Option Int → Hp → Prop), Inv X pins σ H s → t σ H Q →
    wpAny (model X.prog X.w) X.A (evalPart e X.env) (fun u s' => ∃ o H', Inv X pins σ H' s' ∧ IsPart u o ∧ Q o H') X.xe s) := ⟨fun h => h.run⟩
noncomputable def tNoPart : TO := fun _ H Q => Q none H
noncomputable def tPart (t : TE) : TO := fun σ H Q => t σ H fun x H1 => As V.int x fun i => Q (some i) H1

section
variable {X : Cx} {e : Expr} {te : TE} {lo hi : Option Expr} {tl th : TO} {pos p2 : Pos}

theorem po_none : PO X none tNoPart := by
  constructor
  intro pins s σ H Q I h
  rw [evalPart_none]
  exact wpAny_pure ⟨none, H, I, .none, h⟩
theorem po_some (h : PE X e te) : PO X (some e) (tPart te) := by
  constructor
  intro pins s σ H Q I hw
  rw [evalPart_some]
  refine thn (h pins s σ H _ I hw) fun u s1 ⟨x, H1, I1, r1, q1⟩ => ?_
  obtain ⟨i, rfl, q⟩ := q1
  obtain ⟨t, rfl⟩ := r1
  exact ⟨some i, H1, I1, .int i t, q⟩

noncomputable def SlR (X : Cx) (r : V → Option Int → Option Int → Hp → VK → Prop) : Prop :=
  ∀ (pins : List (Addr × Obj)) (s : Shared) (σ : St) (H : Hp) (x : V) (v vl vu : Value) (lo hi : Option Int) (sl : Addr) (Q : VK), Inv X pins σ H s → RelV x v → s.heap.IsSliceOf sl vl vu .none → IsPart vl lo → IsPart vu hi → r x lo hi H Q →
    ∃ T id, typeLookup (.type T) "__getitem__" = pure (some (.builtin id)) ∧ s.TypeIs v T ∧ wpAny (model X.prog X.w) X.A (getItem v (.ref sl)) (EP X pins σ Q) X.xe s
noncomputable def tSl (r : V → Option Int → Option Int → Hp → VK → Prop) (te : TE) (tl th : TO) : TE := fun σ H Q => te σ H fun x H1 => tl σ H1 fun l H2 => th σ H2 fun u H3 => r x l u H3 Q
theorem pe_slice {r : V → Option Int → Option Int → Hp → VK → Prop} (hr : SlR X r) (he : PE X e te) (hl : PO X lo tl) (hu : PO X hi th) : PE X (.Subscript e (.Slice lo hi none p2) pos) (tSl r te tl th) := by
  constructor
  intro pins s σ H Q I h
  refine Subscript_ (thn (he pins s σ H _ I h) fun v s1 ⟨x, H1, I1, r1, q1⟩ => ?_)
  refine wpAny_Slice (thn (hl pins s1 σ H1 _ I1 q1) fun vl s2 ⟨l, H2, I2, pl, q2⟩ => thn (hu pins s2 σ H2 _ I2 q2) fun vu s3 ⟨u, H3, I3, pu, q3⟩ => ?_)
  rw [evalPart_none]
  refine wpAny_pure ?_
  have I4 : Inv X pins σ H3 { s3 with heap := s3.heap.push { cls := .type "slice", data := .fields #[vl, vu, .none] } } := I3.kept (t' := s3.toks) fun b ob q => Heap.get?_push_of_some _ q
  obtain ⟨T, id, hT, ht, hg⟩ := hr pins { s3 with heap := s3.heap.push { cls := .type "slice", data := .fields #[vl, vu, .none] } } σ H3 x v vl vu l u s3.heap.objs.size Q I4 r1 (Heap.IsSliceOf.new ..) pl pu q3
  show wpAny (model X.prog X.w) X.A (subscriptTail e (.Slice lo hi none p2) v (.ref s3.heap.objs.size)) (EP X pins σ Q) X.xe { s3 with heap := s3.heap.push { cls := .type "slice", data := .fields #[vl, vu, .none] } }
  exact tail_any (ops := [.ref s3.heap.objs.size, v]) ht hT hg (by with_unfolding_all rfl)

noncomputable def cutV (xs : List V) (lo hi : Option Int) : List V := (xs.drop (HT.sIx xs.length 0 lo)).take (HT.sIx xs.length xs.length hi - HT.sIx xs.length 0 lo)
theorem cutV_length (xs : List V) (lo hi : Option Int) : (cutV xs lo hi).length ≤ xs.length := by
  unfold cutV
  rw [List.length_take, List.length_drop]
  first | lia | omega
inductive I_rSlT (K : PySem.W.Frag) (x : V) (lo : Option Int) (hi : Option Int) (H : Hp) (Q : VK) : Prop
  | mk (a : _) (xs : _) (q0 : x = .ref a) (q1 : SqT K H a xs) (q2 : ¬ (HT.sIx xs.length 0 lo = 0 ∧ HT.sIx xs.length xs.length hi = xs.length)) (q3 : ∀ p, H p = none → Q (.ref p) (upd H p (.tup (cutV xs lo hi)))) : I_rSlT K x lo hi H Q
noncomputable def rSlT (K : PySem.W.Frag) : V → Option Int → Option Int → Hp → VK → Prop := fun x lo hi H Q => I_rSlT K x lo hi H Q
theorem sl_tup : SlR X (rSlT X.K) := by
  intro pins s σ H x v vl vu lo hi sl Q I rx hs pl pu h
  obtain ⟨a, xs, rfl, hx, hw, q⟩ := h
  cases rx
  obtain ⟨its, r, ht, hz⟩ := I.tuple hx
  have hlen : its.toArray.size = xs.length := by rw [List.size_toArray]; exact r.length.symm
  refine ⟨"tuple", _, PyProof.Rows.slot_tuple_getitem.lookup, ht.typeIs, ?_⟩
  refine HT.getItem_tuple_cut ht hs pl pu (by rw [hlen]; exact hw) ?_ (by rw [hlen]; exact hz)
  rw [hlen]
  refine ⟨.ref s.heap.objs.size, _, I.laid (t' := s.toks) (o := .tup (cutV xs lo hi)) (fun b ob q => Heap.get?_push_of_some _ q) (Nat.le_refl _) ?_, rfl, q _ (I.hok.fresh (Nat.le_refl _))⟩
  exact ⟨Nat.le_trans (cutV_length xs lo hi) hz, _, (r.drop (HT.sIx xs.length 0 lo)).take (HT.sIx xs.length xs.length hi - HT.sIx xs.length 0 lo), IsTup.new _ _⟩

end
end L2

namespace L2
open PySem PySem.Spec PyProof.Rows

noncomputable def ixN (n : Nat) (i : Int) : Option Nat := if 0 ≤ i then (if i < n then some i.toNat else none) else if -(n : Int) ≤ i then some (i + n).toNat else none
noncomputable def atI {α : Type} (xs : List α) (i : Int) : Option α := (ixN xs.length i).bind fun j => xs[j]?
theorem ixN_seq {n : Nat} {i : Int} {j : Nat} (h : ixN n i = some j) : seqIndex? i n = some j ∧ j < n ∧ -(n : Int) ≤ i ∧ i < n := by
  unfold ixN at h
  by_cases h0 : 0 ≤ i
  · rw [if_pos h0] at h
    by_cases h1 : i < n
    · rw [if_pos h1] at h
      have e : i.toNat = j := Option.some.inj h
      exact ⟨by rw [seqIndex_of h0 h1, e], by first | lia | omega, by first | lia | omega, h1⟩
    · rw [if_neg h1] at h; cases h
  · rw [if_neg h0] at h
    by_cases h1 : -(n : Int) ≤ i
    · rw [if_pos h1] at h
      have e : (i + n).toNat = j := Option.some.inj h
      exact ⟨by rw [seqIndex_neg (by first | lia | omega) h1, e], by first | lia | omega, h1, by first | lia | omega⟩
    · rw [if_neg h1] at h; cases h
theorem atI_get {α : Type} {xs : List α} {i : Int} {v : α} (h : atI xs i = some v) : ∃ j, seqIndex? i xs.length = some j ∧ xs[j]? = some v ∧ j < xs.length ∧ -(xs.length : Int) ≤ i ∧ i < xs.length := by
  unfold atI at h
  cases e : ixN xs.length i with
  | none => rw [e] at h; cases h
  | some j =>
    rw [e] at h
    obtain ⟨h1, h2, h3, h4⟩ := ixN_seq e
    exact ⟨j, h1, h, h2, h3, h4⟩
theorem atI_nat {α : Type} {xs : List α} {j : Nat} {v : α} (h : xs[j]? = some v) : atI xs (j : Int) = some v := by
  have hj : j < xs.length := (List.getElem?_eq_some_iff.mp h).1
  have e : ixN xs.length (j : Int) = some j := by
    unfold ixN
    rw [if_pos (by first | lia | omega), if_pos (by first | lia | omega)]; simp
  unfold atI; rw [e]; exact h
noncomputable def PlainIx (b : Expr) : Prop := ∀ o i, subscripted b false o i = operate [o, i] (getItem o i)
noncomputable def IxR (X : Cx) (r : R2) : Prop :=
  ∀ (value slice : Expr) (pins : List (Addr × Obj)) (s : Shared) (σ : St) (H : Hp) (x y : V) (v u : Value) (Q : VK), Inv X pins σ H s → RelV x v → RelV y u → r x y H Q →
    subscripted slice false v u = operate [v, u] (getItem v u) → wpAny (model X.prog X.w) X.A (subscriptTail value slice v u) (EP X pins σ Q) X.xe s
noncomputable def MtR (X : Cx) (id : String) (r : V → List V → Hp → VK → Prop) : Prop :=
  ∀ (pins : List (Addr × Obj)) (s : Shared) (σ : St) (H : Hp) (x : V) (xs : List V) (v : Value) (us : List Value) (Q : VK), Inv X pins σ H s → RelV x v → Vals xs us → r x xs H Q →
    wpAny (model X.prog X.w) X.A (call (.builtin id) (v :: us)) (EP X pins σ Q) X.xe s
section
variable {X : Cx} {a b : Expr} {ta tb : TE} {pos : Pos}
theorem pe_ix {r : R2} (hr : IxR X r) (ha : PE X a ta) (hb : PE X b tb) (hs : PlainIx b) : PE X (.Subscript a b pos) (tOp r ta tb) := by
  constructor
  intro pins s σ H Q I h
  exact Subscript_ (binT ha hb I h fun v u s2 x y H2 I2 rx ry q => hr a b pins s2 σ H2 x y v u Q I2 rx ry q (hs _ _))

inductive I_rIxL (K : PySem.W.Frag) (x : V) (y : V) (H : Hp) (Q : VK) : Prop
  | mk (p : _) (xs : _) (i : _) (v : _) (q0 : x = .ref p) (q1 : y = .int i) (q2 : SqL K H p xs) (q3 : atI xs i = some v) (q4 : Q v H) : I_rIxL K x y H Q
noncomputable def rIxL (K : PySem.W.Frag) : R2 := fun x y H Q => I_rIxL K x y H Q
inductive I_rIxT (K : PySem.W.Frag) (x : V) (y : V) (H : Hp) (Q : VK) : Prop
  | mk (p : _) (xs : _) (i : _) (v : _) (q0 : x = .ref p) (q1 : y = .int i) (q2 : SqT K H p xs) (q3 : atI xs i = some v) (q4 : Q v H) : I_rIxT K x y H Q
noncomputable def rIxT (K : PySem.W.Frag) : R2 := fun x y H Q => I_rIxT K x y H Q
inductive I_rIxS (x : V) (y : V) (H : Hp) (Q : VK) : Prop
  | mk (z : _) (i : _) (c : _) (q0 : x = .str z) (q1 : y = .int i) (q2 : z.length ≤ sizeLine) (q3 : atI z.cps.toList i = some c) (q4 : Q (.str ⟨#[c]⟩) H) : I_rIxS x y H Q
noncomputable def rIxS : R2 := fun x y H Q => I_rIxS x y H Q
theorem ix_list : IxR X (rIxL X.K) := by
  intro value slice pins s σ H x y v u Q I rx ry h hs
  obtain ⟨p, xs, i, z, rfl, rfl, hq, he, q⟩ := h
  cases rx
  obtain ⟨t, rfl⟩ := ry
  obtain ⟨its, r, pl, hz⟩ := I.list hq
  obtain ⟨j, h1, h2, h3, h4, h5⟩ := atI_get he
  obtain ⟨w, ew, rw'⟩ := r.get h2
  have hl := r.length
  have hn := line63
  have fin : EP X pins σ Q w s := ⟨z, H, I, rw', q⟩
  by_cases h0 : 0 ≤ i
  · have hj : i.toNat = j := by
      rw [seqIndex_of h0 h5] at h1
      exact Option.some.inj h1
    exact item_listR pl.isList h0 (by first | lia | omega) (by rw [hj]; simpa using ew) fin hs
  · have hj : (i + (its.toArray.size : Int)).toNat = j := by
      rw [seqIndex_neg (by first | lia | omega) h4] at h1
      rw [List.size_toArray, ← hl]
      exact Option.some.inj h1
    exact subscriptTail_builtinR (x := w) pl.isList.typeIs slot_list_getitem.lookup
      (wpAny_getItem_list_neg (Q := fun r s' => r = w ∧ EP X pins σ Q r s') pl.isList (by first | lia | omega) (by rw [List.size_toArray] <;> first | lia | omega) (by first | lia | omega) (by rw [hj]; simpa using ew) ⟨rfl, fin⟩) hs
theorem ix_tup : IxR X (rIxT X.K) := by
  intro value slice pins s σ H x y v u Q I rx ry h hs
  obtain ⟨p, xs, i, z, rfl, rfl, hq, he, q⟩ := h
  cases rx
  obtain ⟨t, rfl⟩ := ry
  obtain ⟨its, r, pl, hz⟩ := I.tuple hq
  obtain ⟨j, h1, h2, h3, h4, h5⟩ := atI_get he
  obtain ⟨w, ew, rw'⟩ := r.get h2
  have hl := r.length
  have hn := line63
  have fin : EP X pins σ Q w s := ⟨z, H, I, rw', q⟩
  exact subscriptTail_builtinR (x := w) pl.typeIs slot_tuple_getitem.lookup
    (getItem_tuple (j := j) (Q := fun r s' => r = w ∧ EP X pins σ Q r s') pl (by first | lia | omega) (by first | lia | omega) (by rw [List.size_toArray, ← hl]; exact h1) (by simpa using ew) ⟨rfl, fin⟩) hs
theorem ix_str : IxR X rIxS := by
  intro value slice pins s σ H x y v u Q I rx ry h hs
  obtain ⟨z, i, c, rfl, rfl, hz, he, q⟩ := h
  obtain ⟨t, rfl⟩ := rx
  obtain ⟨t', rfl⟩ := ry
  obtain ⟨j, h1, h2, h3, h4, h5⟩ := atI_get he
  have hl : z.cps.toList.length = z.length := by simp [Str.length]
  rw [hl] at h1 h4 h5
  have hn := line63
  exact tail_any (typeIs_str s z t) slot_str_getitem.lookup (getItem_str (c := c) (by
    have e1 : decide (i < -(2 ^ 63 : Int)) = false := decide_eq_false (by first | lia | omega)
    have e2 : decide (i ≥ 2 ^ 63) = false := decide_eq_false (by first | lia | omega)
    rw [e1, e2, Bool.or_false]) (by rw [h1]; simpa using h2) ⟨.str ⟨#[c]⟩, H, I.tok _, ⟨_, rfl⟩, q⟩) hs
theorem mapSeq_set (its : List Value) (n j : Nat) (u : Value) : Obj.mapSeq (·.setIfInBounds j u) { cls := .type "list", data := .seq its.toArray n } = { cls := .type "list", data := .seq (its.set j u).toArray n } := by
  simp [Obj.mapSeq]
theorem Inv.lst {pins : List (Addr × Obj)} {σ : St} {H : Hp} {s : Shared} {p : Addr} {xs : List V} (I : Inv X pins σ H s) (h : H p = some (.lst xs)) :
    ∃ (its : List Value) (n : Nat), Vals xs its ∧ s.heap.get? p = some { cls := .type "list", data := .seq its.toArray n } ∧ xs.length ≤ sizeLine := by
  obtain ⟨z, its, n, r, e⟩ := I.hok p _ h
  exact ⟨its, n, r, e, z⟩
theorem Inv.lstUpd {pins : List (Addr × Obj)} {σ : St} {H : Hp} {s : Shared} {p : Addr} {xs ys : List V} {its its' : List Value} {n n' : Nat} {f : Obj → Obj} (I : Inv X pins σ H s) (h : H p = some (.lst xs))
    (ho : s.heap.get? p = some { cls := .type "list", data := .seq its.toArray n }) (hf : f { cls := .type "list", data := .seq its.toArray n } = { cls := .type "list", data := .seq its'.toArray n' }) (r : Vals ys its') (hz : ys.length ≤ sizeLine) (t : Nat) :
    Inv X pins σ (upd H p (.lst ys)) { s with heap := s.heap.update p f, toks := t } := by
  have e : (s.heap.update p f).get? p = some { cls := .type "list", data := .seq its'.toArray n' } := by
    rw [Heap.get?_update_self f ho (by rw [hf] <;> rfl), hf]
  refine I.write (x := p) (e := p) (by rw [h]; trivial) (.inl rfl) (fun b u hb q => (Heap.get?_update_other _ _ (Ne.symm hb)).trans q) ⟨_, e⟩ ?_
  exact ⟨hz, its', n', r, e⟩
inductive I_rSetL (o : V) (i : V) (v : V) (H : Hp) (Q : (Hp → Prop)) : Prop
  | mk (p : _) (xs : _) (k : _) (j : _) (q0 : o = .ref p) (q1 : i = .int k) (q2 : H p = some (.lst xs)) (q3 : ixN xs.length k = some j) (q4 : Q (upd H p (.lst (xs.set j v)))) : I_rSetL o i v H Q
noncomputable def rSetL : V → V → V → Hp → (Hp → Prop) → Prop := fun o i v H Q => I_rSetL o i v H Q
theorem set_list : PSet X rSetL := by
  intro pins s σ H o i v ov iv u Q I ro ri rv h
  obtain ⟨p, xs, k, j, rfl, rfl, hp, hj, q⟩ := h
  cases ro
  obtain ⟨t, rfl⟩ := ri
  obtain ⟨its, n, r, ho, hz⟩ := I.lst hp
  obtain ⟨h1, h2, h3, h4⟩ := ixN_seq hj
  have hl := r.length
  have hn := line63
  have I' : Inv X pins σ (upd H p (.lst (xs.set j v))) { s with heap := s.heap.update p (Obj.mapSeq (·.setIfInBounds j u)) } :=
    I.lstUpd hp ho (mapSeq_set its n j u) (r.set rv j) (by rw [List.length_set]; exact hz) s.toks
  by_cases h0 : 0 ≤ k
  · have hk : k.toNat = j := by
      rw [seqIndex_of h0 h4] at h1
      exact Option.some.inj h1
    exact PySem.W.ki_setAt ho h0 (by first | lia | omega) (by rw [List.size_toArray, ← hl]; exact h4) (by rw [hk]; exact ⟨_, I', q⟩)
  · have hk : (k + (its.toArray.size : Int)).toNat = j := by
      rw [seqIndex_neg (by first | lia | omega) h3] at h1
      rw [List.size_toArray, ← hl]
      exact Option.some.inj h1
    exact PySem.W.ki_setBack ho (by first | lia | omega) (by rw [List.size_toArray, ← hl]; exact h3) (by first | lia | omega) (by rw [hk]; exact ⟨_, I', q⟩)

theorem slice_bounds (lo hi : Option Int) (n : Nat) : (sliceBounds lo hi none n).1 = ((HT.sIx n 0 lo : Nat) : Int) ∧ (sliceBounds lo hi none n).2.1 = ((HT.sIx n n hi : Nat) : Int) ∧ (sliceBounds lo hi none n).2.2 = 1 := by
  refine ⟨?_, ?_, rfl⟩
  · cases lo with
    | none => simp [sliceBounds, HT.sIx]
    | some i =>
      simp only [sliceBounds, HT.sIx, Option.getD_none, show (1 : Int) > 0 by decide, if_true]
      by_cases h : i < 0
      · simp only [h, if_true] <;> first | lia | omega
      · simp only [h, if_false] <;> first | lia | omega
  · cases hi with
    | none => simp [sliceBounds, HT.sIx]
    | some i =>
      simp only [sliceBounds, HT.sIx, Option.getD_none, show (1 : Int) > 0 by decide, if_true]
      by_cases h : i < 0
      · simp only [h, if_true] <;> first | lia | omega
      · simp only [h, if_false] <;> first | lia | omega
theorem slicePick_cut (its : List Value) (lo hi : Option Int) : slicePick its.toArray lo hi none = ((its.drop (HT.sIx its.length 0 lo)).take (HT.sIx its.length its.length hi - HT.sIx its.length 0 lo)).toArray := by
  obtain ⟨h1, h2, h3⟩ := slice_bounds lo hi its.toArray.size
  unfold slicePick
  rw [h1, h2, h3]
  simp only [sliceRange_one, pick_run, List.size_toArray] <;> rfl
inductive I_rSlL (K : PySem.W.Frag) (x : V) (lo : Option Int) (hi : Option Int) (H : Hp) (Q : VK) : Prop
  | mk (a : _) (xs : _) (q0 : x = .ref a) (q1 : SqL K H a xs) (q2 : ∀ p, H p = none → Q (.ref p) (upd H p (.lst (cutV xs lo hi)))) : I_rSlL K x lo hi H Q
noncomputable def rSlL (K : PySem.W.Frag) : V → Option Int → Option Int → Hp → VK → Prop := fun x lo hi H Q => I_rSlL K x lo hi H Q
theorem sl_list : SlR X (rSlL X.K) := by
  intro pins s σ H x v vl vu lo hi sl Q I rx hs pl pu h
  obtain ⟨a, xs, rfl, hx, q⟩ := h
  cases rx
  obtain ⟨its, r, ht, hz⟩ := I.list hx
  have hlen := r.length
  refine ⟨"list", _, slot_list_getitem.lookup, ht.isList.typeIs, ?_⟩
  refine wpAny_getItem_list_slice ht.isList hs pl pu .none (by simp) ?_ (by rw [List.size_toArray] <;> first | lia | omega)
  rw [slicePick_cut, ← hlen]
  refine ⟨.ref s.heap.objs.size, _, I.laid (t' := s.toks) (o := .lst (cutV xs lo hi)) (fun b ob q => Heap.get?_push_of_some _ q) (Nat.le_refl _) ?_, rfl, q _ (I.hok.fresh (Nat.le_refl _))⟩
  exact ⟨Nat.le_trans (cutV_length xs lo hi) hz, _, 0, (r.drop (HT.sIx xs.length 0 lo)).take (HT.sIx xs.length xs.length hi - HT.sIx xs.length 0 lo), Heap.get?_push_size _ rfl⟩

noncomputable def flatV : V → Bool
  | .non => true
  | .bl _ => true
  | .int _ => true
  | .str _ => true
  | _ => false
noncomputable def eqV : V → V → Bool
  | .non, .non => true
  | .bl a, .bl b => a == b
  | .bl a, .int b => (if a then 1 else 0) == b
  | .int a, .bl b => a == (if b then 1 else 0)
  | .int a, .int b => a == b
  | .str a, .str b => a == b
  | _, _ => false
theorem eqAt_V {A : Around} {s : Shared} {y x : V} {u v : Value} (ry : RelV y u) (rx : RelV x v) (fy : flatV y = true) (fx : flatV x = true) : SeqAt.EqAt A s u v (eqV y x) := by
  cases y with
  | non =>
    cases ry
    cases x with
    | non => cases rx; exact SeqAt.EqAt.same _
    | bl b => cases rx; exact SeqAt.EqAt.none_bool b
    | int b => obtain ⟨t, rfl⟩ := rx; exact SeqAt.EqAt.none_int b t
    | str b => obtain ⟨t, rfl⟩ := rx; exact SeqAt.EqAt.none_str b t
    | _ => exact absurd (show false = true from fx) Bool.false_ne_true
  | bl a =>
    cases ry
    cases x with
    | non => cases rx; exact SeqAt.EqAt.bool_none a
    | bl b => cases rx; exact SeqAt.EqAt.bool_bool a b
    | int b => obtain ⟨t, rfl⟩ := rx; exact SeqAt.EqAt.bool_int a b t
    | str b => obtain ⟨t, rfl⟩ := rx; exact SeqAt.EqAt.bool_str a b t
    | _ => exact absurd (show false = true from fx) Bool.false_ne_true
  | int a =>
    obtain ⟨t', rfl⟩ := ry
    cases x with
    | non => cases rx; exact SeqAt.EqAt.int_none a t'
    | bl b => cases rx; exact SeqAt.EqAt.int_bool a t' b
    | int b => obtain ⟨t, rfl⟩ := rx; exact SeqAt.EqAt.int_int a t' b t
    | str b => obtain ⟨t, rfl⟩ := rx; exact SeqAt.EqAt.int_str a t' b t
    | _ => exact absurd (show false = true from fx) Bool.false_ne_true
  | str a =>
    obtain ⟨t', rfl⟩ := ry
    cases x with
    | non => cases rx; exact SeqAt.EqAt.str_none a t'
    | bl b => cases rx; exact SeqAt.EqAt.str_bool a t' b
    | int b => obtain ⟨t, rfl⟩ := rx; exact SeqAt.EqAt.str_int a t' b t
    | str b => obtain ⟨t, rfl⟩ := rx; exact SeqAt.EqAt.str_str a t' b t
    | _ => exact absurd (show false = true from fx) Bool.false_ne_true
  | _ => exact absurd (show false = true from fy) Bool.false_ne_true
noncomputable def eqU (x : V) (u : Value) : Bool := match u with
  | .none => eqV .non x
  | .bool b => eqV (.bl b) x
  | .int i _ => eqV (.int i) x
  | .str z _ => eqV (.str z) x
  | _ => false
theorem eqU_of {x y : V} {u : Value} (r : RelV y u) (f : flatV y = true) : eqU x u = eqV y x := by
  cases y with
  | non => cases r; rfl
  | bl b => cases r; rfl
  | int i => obtain ⟨t, rfl⟩ := r; rfl
  | str z => obtain ⟨t, rfl⟩ := r; rfl
  | _ => exact absurd (show false = true from f) Bool.false_ne_true
theorem any_eqU {x : V} : ∀ {xs : List V} {us : List Value}, Vals xs us → xs.all flatV = true → us.any (eqU x) = xs.any fun y => eqV y x
  | _, _, .nil, _ => rfl
  | y :: xs, u :: us, .cons r t, f => by
    rw [List.all_cons, Bool.and_eq_true] at f
    rw [List.any_cons, List.any_cons, eqU_of r f.1, any_eqU t f.2]
theorem mem_eqAt {A : Around} {s : Shared} {x : V} {v : Value} (rx : RelV x v) (fx : flatV x = true) : ∀ {xs : List V} {us : List Value}, Vals xs us → xs.all flatV = true → ∀ u ∈ us, SeqAt.EqAt A s u v (eqU x u)
  | _, _, .nil, _ => fun u hu => by cases hu
  | y :: xs, u :: us, .cons r t, f => fun u' hu => by
    rw [List.all_cons, Bool.and_eq_true] at f
    rcases List.mem_cons.mp hu with rfl | hu
    · rw [eqU_of r f.1]; exact eqAt_V r rx f.1 fx
    · exact mem_eqAt rx fx t f.2 u' hu
noncomputable def inV (x : V) (xs : List V) : Bool := xs.any fun y => eqV y x
inductive I_rIn (K : PySem.W.Frag) (neg : Bool) (x : V) (y : V) (H : Hp) (Q : VK) : Prop
  | mk (p : _) (xs : _) (q0 : y = .ref p) (q1 : (SqL K H p xs ∨ SqT K H p xs)) (q2 : flatV x = true) (q3 : xs.all flatV = true) (q4 : Q (.bl (if neg then !inV x xs else inV x xs)) H) : I_rIn K neg x y H Q
noncomputable def rIn (K : PySem.W.Frag) (neg : Bool) : R2 := fun x y H Q => I_rIn K neg x y H Q
theorem op_in_seq : OpR X (compareOp .In) (rIn X.K false) := by
  intro pins s σ H x y v u Q I rx ry h
  obtain ⟨p, xs, rfl, hq, fx, fs, q⟩ := h
  cases ry
  rcases hq with hq | hq
  · obtain ⟨its, r, pl, hz⟩ := I.list hq
    refine SeqAt.in_listAt (eqU x) pl.isList (fun w hw => mem_eqAt rx fx r fs w (by simpa using hw)) ⟨.bl _, H, I, rfl, ?_⟩
    rw [show its.toArray.any (eqU x) = its.any (eqU x) by simp, any_eqU r fs]
    exact q
  · obtain ⟨its, r, pl, hz⟩ := I.tuple hq
    refine SeqAt.in_tupleAt (eqU x) pl (fun w hw => mem_eqAt rx fx r fs w (by simpa using hw)) ⟨.bl _, H, I, rfl, ?_⟩
    rw [show its.toArray.any (eqU x) = its.any (eqU x) by simp, any_eqU r fs]
    exact q
theorem op_notIn_seq : OpR X (compareOp .NotIn) (rIn X.K true) := by
  intro pins s σ H x y v u Q I rx ry h
  obtain ⟨p, xs, rfl, hq, fx, fs, q⟩ := h
  cases ry
  rcases hq with hq | hq
  · obtain ⟨its, r, pl, hz⟩ := I.list hq
    refine SeqAt.notIn_listAt (eqU x) pl.isList (fun w hw => mem_eqAt rx fx r fs w (by simpa using hw)) ⟨.bl _, H, I, rfl, ?_⟩
    rw [show its.toArray.any (eqU x) = its.any (eqU x) by simp, any_eqU r fs]
    exact q
  · obtain ⟨its, r, pl, hz⟩ := I.tuple hq
    refine SeqAt.notIn_tupleAt (eqU x) pl (fun w hw => mem_eqAt rx fx r fs w (by simpa using hw)) ⟨.bl _, H, I, rfl, ?_⟩
    rw [show its.toArray.any (eqU x) = its.any (eqU x) by simp, any_eqU r fs]
    exact q
inductive I_r_call_len_seq (K : PySem.W.Frag) (xs : List V) (H : Hp) (Q : VK) : Prop
  | mk (p : _) (ys : _) (q0 : xs = [.ref p]) (q1 : (SqL K H p ys ∨ SqT K H p ys)) (q2 : Q (.int ys.length) H) : I_r_call_len_seq K xs H Q
noncomputable def r_call_len_seq (K : PySem.W.Frag) : List V → Hp → VK → Prop := fun xs H Q => I_r_call_len_seq K xs H Q
theorem call_len_seq : CallR X (.builtin "len") (r_call_len_seq X.K) := by
  intro pins s σ H xs us Q I r h
  obtain ⟨p, ys, rfl, hq, q⟩ := h
  obtain ⟨u, rfl, rx⟩ := vals1 r
  cases rx
  have hn := line63
  rcases hq with hq | hq
  · obtain ⟨its, r', pl, hz⟩ := I.list hq
    have hlen := r'.length
    exact Calls.call_len_list pl.isList (by simp only [List.size_toArray] <;> first | lia | omega) ⟨.int ys.length, H, I.tok _, ⟨s.toks + 1, by rw [List.size_toArray, hlen]⟩, q⟩
  · obtain ⟨its, r', pl, hz⟩ := I.tuple hq
    have hlen := r'.length
    exact len_tuple pl (by simp only [List.size_toArray] <;> first | lia | omega) ⟨.int ys.length, H, I.tok _, ⟨s.toks + 1, by rw [List.size_toArray, hlen]⟩, q⟩
inductive I_r_call_len_str (xs : List V) (H : Hp) (Q : VK) : Prop
  | mk (z : _) (q0 : xs = [.str z]) (q1 : z.length ≤ sizeLine) (q2 : Q (.int z.length) H) : I_r_call_len_str xs H Q
noncomputable def r_call_len_str : List V → Hp → VK → Prop := fun xs H Q => I_r_call_len_str xs H Q
theorem call_len_str : CallR X (.builtin "len") r_call_len_str := by
  intro pins s σ H xs us Q I r h
  obtain ⟨z, rfl, hz, q⟩ := h
  obtain ⟨u, rfl, t, rfl⟩ := vals1 r
  have hn := line63
  exact len_str (by first | lia | omega) ⟨.int z.length, H, I.tok _, ⟨_, rfl⟩, q⟩
inductive I_r_call_list_of (K : PySem.W.Frag) (xs : List V) (H : Hp) (Q : VK) : Prop
  | mk (p : _) (ys : _) (q0 : xs = [.ref p]) (q1 : (SqL K H p ys ∨ SqT K H p ys)) (q2 : ∀ l, H l = none → Q (.ref l) (upd H l (.lst ys))) : I_r_call_list_of K xs H Q
noncomputable def r_call_list_of (K : PySem.W.Frag) : List V → Hp → VK → Prop := fun xs H Q => I_r_call_list_of K xs H Q
theorem call_list_of : CallR X (.type "list") (r_call_list_of X.K) := by
  intro pins s σ H xs us Q I r h
  obtain ⟨p, ys, rfl, hq, q⟩ := h
  obtain ⟨u, rfl, rx⟩ := vals1 r
  cases rx
  have fin : ∀ (its : List Value), Vals ys its → ys.length ≤ sizeLine → ∀ (h' : Heap) (c' : Nat), (∀ b o', s.heap.get? b = some o' → h'.get? b = some o') →
      h'.get? s.heap.objs.size = some { cls := .type "list", dict := none, data := .seq its.toArray c', slots := #[] } → EP X pins σ Q (.ref s.heap.objs.size) { s with heap := h' } := fun its r' hz h' c' kp e =>
    ⟨.ref s.heap.objs.size, _, I.laid (t' := s.toks) kp (Nat.le_refl _) (show ObjOk X.prog X.w _ h' _ (.lst ys) from ⟨hz, its, c', r', e⟩), rfl, q _ (I.hok.fresh (Nat.le_refl _))⟩
  rcases hq with hq | hq
  · obtain ⟨its, r', pl, hz⟩ := I.list hq
    have hlen := r'.length
    obtain ⟨o, ho, hc, n, hd⟩ := pl.isList
    exact call_list_seq p (.inl rfl) ho hc hd (fun h' c' kp e => fin its r' hz h' c' kp e) (by simp only [List.size_toArray] <;> first | lia | omega)
  · obtain ⟨its, r', pl, hz⟩ := I.tuple hq
    have hlen := r'.length
    obtain ⟨o, ho, hc, n, hd⟩ := pl
    exact call_list_seq p (.inr rfl) ho hc hd (fun h' c' kp e => fin its r' hz h' c' kp e) (by simp only [List.size_toArray] <;> first | lia | omega)
inductive I_r_call_tuple_of (K : PySem.W.Frag) (xs : List V) (H : Hp) (Q : VK) : Prop
  | mk (p : _) (ys : _) (q0 : xs = [.ref p]) (q1 : ((SqL K H p ys ∧ ∀ l, H l = none → Q (.ref l) (upd H l (.tup ys))) ∨ (SqT K H p ys ∧ Q (.ref p) H))) : I_r_call_tuple_of K xs H Q
noncomputable def r_call_tuple_of (K : PySem.W.Frag) : List V → Hp → VK → Prop := fun xs H Q => I_r_call_tuple_of K xs H Q
theorem call_tuple_of : CallR X (.type "tuple") (r_call_tuple_of X.K) := by
  intro pins s σ H xs us Q I r h
  obtain ⟨p, ys, rfl, h⟩ := h
  obtain ⟨u, rfl, rx⟩ := vals1 r
  cases rx
  rcases h with ⟨hq, q⟩ | ⟨hq, q⟩
  · obtain ⟨its, r', pl, hz⟩ := I.list hq
    have hlen := r'.length
    refine call_tuple_list pl.isList (fun h' kp => ?_) (by simp only [List.size_toArray] <;> first | lia | omega)
    have I1 : Inv X pins σ H { s with heap := h' } := I.kept (t' := s.toks) kp
    have I2 : Inv X pins σ (upd H h'.objs.size (.tup ys)) { s with heap := h'.push { cls := .type "tuple", data := .seq its.toArray } } :=
      I1.laid (t' := s.toks) (fun b o e => Heap.get?_push_of_some _ e) (Nat.le_refl _) (show ObjOk X.prog X.w _ _ _ (.tup ys) from ⟨hz, its, r', IsTup.new _ _⟩)
    exact ⟨.ref h'.objs.size, _, I2, rfl, q _ (I1.hok.fresh (Nat.le_refl _))⟩
  · obtain ⟨its, r', pl, hz⟩ := I.tuple hq
    exact call_tuple_same pl ⟨.ref p, H, I, rfl, q⟩

noncomputable def tyV (K : PySem.W.Frag) (T : String) (x : V) (H : Hp) : Prop := match x with
  | .str _ => T = "str"
  | .int _ => T = "int"
  | .ref p => (T = "list" ∧ ∃ xs, SqL K H p xs) ∨ (T = "tuple" ∧ ∃ o, K.lookup p = some o ∧ o.cls = .type "tuple" ∧ o.dict = none) ∨
      (T = "dict" ∧ ((∃ kvs, H p = some (.dK kvs)) ∨ ∃ kvs, H p = some (.dT kvs))) ∨ (T = "set" ∧ ∃ S n, H p = some (.set S n))
  | _ => False
theorem tyV_is {pins : List (Addr × Obj)} {σ : St} {H : Hp} {s : Shared} {T : String} {x : V} {v : Value} (I : Inv X pins σ H s) (r : RelV x v) (ty : tyV X.K T x H) :
    s.TypeIs v T ∧ ∀ a, v = .ref a → ∃ ob, s.heap.get? a = some ob ∧ ob.dict = none := by
  cases x with
  | str z =>
    obtain ⟨t, rfl⟩ := r
    cases (show T = "str" from ty)
    exact ⟨typeIs_str s z t, fun _ e => nomatch e⟩
  | int i =>
    obtain ⟨t, rfl⟩ := r
    cases (show T = "int" from ty)
    exact ⟨typeIs_int s i t, fun _ e => nomatch e⟩
  | ref p =>
    cases r
    rcases ty with ⟨rfl, xs, hq⟩ | ⟨rfl, o, hk, hc, hd⟩ | ⟨rfl, hk⟩ | ⟨rfl, S, n, hk⟩
    · obtain ⟨its, _, pl, _⟩ := I.list hq
      refine ⟨pl.isList.typeIs, fun a e => ?_⟩
      cases e
      obtain ⟨o, n, e, c, hd, _⟩ := pl
      exact ⟨o, e, hd⟩
    · refine ⟨⟨o, I.kIn p o hk, hc⟩, fun a e => ?_⟩
      cases e
      exact ⟨o, I.kIn _ o hk, hd⟩
    · have z : ∃ o, s.heap.get? p = some o ∧ o.ExactDict := by
        rcases hk with ⟨kvs, hk⟩ | ⟨kvs, hk⟩
        · obtain ⟨_, _, _, _, o, _, _, e, ex, _⟩ := I.hok p _ hk
          exact ⟨o, e, ex⟩
        · obtain ⟨_, _, _, _, o, _, _, e, ex, _⟩ := I.hok p _ hk
          exact ⟨o, e, ex⟩
      obtain ⟨o, e, ex⟩ := z
      refine ⟨⟨o, e, ex.1⟩, fun a e2 => ?_⟩
      cases e2
      exact ⟨o, e, ex.2.1⟩
    · obtain ⟨o, _, _, _, e, ex, _⟩ := I.hok p _ hk
      refine ⟨⟨o, e, ex.1⟩, fun a e2 => ?_⟩
      cases e2
      exact ⟨o, e, ex.2.1⟩
  | _ => exact False.elim ty
noncomputable def tBM0 (K : PySem.W.Frag) (T : String) (r : V → List V → Hp → VK → Prop) (to : TE) : TE := fun σ H Q => to σ H fun x H1 => tyV K T x H1 ∧ r x [] H1 Q
noncomputable def tBM (K : PySem.W.Frag) (T : String) (r : V → List V → Hp → VK → Prop) (to : TE) (t : TA) : TE := fun σ H Q => to σ H fun x H1 => tyV K T x H1 ∧ t σ H1 fun xs H2 => r x xs H2 Q
variable {o e : Expr} {es : List Expr} {to : TE} {t : TA} {name : Str} {apos cpos : Pos} {T id : String} {r : V → List V → Hp → VK → Prop}
theorem pe_bm0 (pa : PlainAttrs T) (slot : Slot T name id) (hty : typeOf (.builtin id) = pure (.type "method_descriptor")) (hm : MtR X id r) (ho : PE X o to)
    (hbase : attributeBase o name X.env (eval o X.env) = eval o X.env := by rfl) (hline : (apos.endLine == cpos.line) = true := by rfl) : PE X (.Call (.Attribute o name apos) [] [] cpos) (tBM0 X.K T r to) := by
  constructor
  intro pins s σ H Q I h
  refine wpAny_Call_method0_late hbase hline (thn (ho pins s σ H _ I h) fun v s1 ⟨x, H1, I1, r1, ty, q1⟩ => ?_)
  obtain ⟨h1, h2⟩ := tyV_is I1 r1 ty
  exact ⟨T, id, pa, slot, hty, h1, h2, Calls.callWith_builtin rfl (PySem.evalArgs_none (hm pins s1 σ H1 x [] v [] Q I1 r1 .nil q1))⟩
theorem pe_bm (pa : PlainAttrs T) (slot : Slot T name id) (hty : typeOf (.builtin id) = pure (.type "method_descriptor")) (hm : MtR X id r) (ho : PE X o to) (ha : PA X (e :: es) t)
    (hbase : attributeBase o name X.env (eval o X.env) = eval o X.env := by rfl)
    (hfew : ((backTo cpos (starEach (e :: es) X.env)).all (fun x => !x.1) && (backToKw cpos (keywordEach [] X.env)).all (fun x => x.1.isSome)
      && decide ((e :: es).length + ([] : List Keyword).length + (if ([] : List Keyword).isEmpty then 0 else 1) < 30)) = true := by rfl)
    (hline : (apos.endLine == cpos.line) = true := by rfl) (hs : starEach (e :: es) X.env = (false, eval e X.env) :: starEach es X.env := by rfl) (hplain : (backTo cpos (starEach es X.env)).any (·.1) = false := by rfl) :
    PE X (.Call (.Attribute o name apos) (e :: es) [] cpos) (tBM X.K T r to t) := by
  constructor
  intro pins s σ H Q I h
  refine wpAny_Call_method_late hbase hfew hline rfl (thn (ho pins s σ H _ I h) fun v s1 ⟨x, H1, I1, r1, ty, q1⟩ => ?_)
  obtain ⟨h1, h2⟩ := tyV_is I1 r1 ty
  refine ⟨T, id, pa, slot, hty, h1, h2, ?_⟩
  have hA := ha cpos pins s1 σ H1 _ I1 q1
  rw [hs] at hA ⊢
  refine Calls.callWith_builtin (by show (false || (backTo cpos (starEach es X.env)).any (·.1)) = false; rw [hplain] <;> rfl) (Calls.evalArgs_plain ?_)
  exact thn hA fun us s2 ⟨vs, H2, I2, r2, q2⟩ => hm pins s2 σ H2 x vs v us Q I2 r1 r2 q2
/- xs.append(e), list.index on a module's tuple .. are MtR facts of 06m -/
end
end L2

namespace L2
open PySem PySem.Spec PyProof.Rows

noncomputable def MtM (X : Cx) (id : String) (r : V → List V → Hp → VK → Prop) : Prop :=
  ∀ (pins : List (Addr × Obj)) (s : Shared) (σ : St) (H : Hp) (x : V) (xs : List V) (v : Value) (us : List Value) (Q : VK), Inv X pins σ H s → RelV x v → Vals xs us → r x xs H Q →
    wpAny (model X.prog X.w) X.A (call (.builtin id) (v :: us)) (EP X pins σ Q) X.xe s

theorem Vals.one {x : V} {us : List Value} (h : Vals [x] us) : ∃ u, us = [u] ∧ RelV x u := by
  cases h with
  | cons r h => cases h; exact ⟨_, rfl, r⟩
theorem Vals.zero : ∀ {us : List Value}, Vals [] us → us = []
  | _, .nil => rfl
theorem Vals.eraseIdx : ∀ {xs : List V} {us : List Value} (i : Nat), Vals xs us → Vals (xs.eraseIdx i) (us.eraseIdx i)
  | _, _, _, .nil => .nil
  | _, _, 0, .cons _ t => t
  | _, _, i + 1, .cons r t => .cons r (Vals.eraseIdx i t)
theorem Vals.rep {xs : List V} {us : List Value} (h : Vals xs us) : ∀ k : Nat, Vals (List.replicate k xs).flatten (List.replicate k us).flatten
  | 0 => .nil
  | k + 1 => by
    rw [List.replicate_succ, List.replicate_succ, List.flatten_cons, List.flatten_cons]
    exact Vals.append h (Vals.rep h k)
theorem len_erase {α : Type} : ∀ (l : List α) (i : Nat), (l.eraseIdx i).length ≤ l.length
  | [], _ => Nat.le_refl _
  | _ :: _, 0 => Nat.le_succ _
  | _ :: r, i + 1 => Nat.succ_le_succ (len_erase r i)
section
variable {X : Cx} {pins : List (Addr × Obj)} {σ : St} {H : Hp} {s : Shared} {l b : Addr} {xs ys zs : List V}

theorem Inv.lset {its its' : List Value} {n : Nat} {f : Array Value → Array Value} {t' : Nat} (I : Inv X pins σ H s) (hH : H l = some (.lst xs))
    (e : s.heap.get? l = some { cls := .type "list", data := .seq its.toArray n }) (hf : f its.toArray = its'.toArray) (hv : Vals ys its') (hz : ys.length ≤ sizeLine) :
    Inv X pins σ (upd H l (.lst ys)) { s with heap := s.heap.update l (Obj.mapSeq f), toks := t' } := by
  have q := PySem.IsL.update e f
  rw [hf] at q
  refine I.write (x := l) (e := l) (by rw [hH]; exact trivial) (.inl rfl) (fun b' u hb hu => (Heap.get?_update_other s.heap (Obj.mapSeq f) (Ne.symm hb)).trans hu) ⟨_, q⟩ ?_
  exact ⟨hz, its', _, hv, q⟩
theorem Inv.fresh (I : Inv X pins σ H s) : H s.heap.objs.size = none := I.hok.fresh (Nat.le_refl _)
theorem Inv.lstM (I : Inv X pins σ H s) (hH : H l = some (.lst xs)) : xs.length ≤ sizeLine ∧ ∃ (its : List Value) (n : Nat), Vals xs its ∧ xs.length = its.length ∧ s.heap.get? l = some { cls := .type "list", data := .seq its.toArray n } := by
  obtain ⟨z, its, n, r, e⟩ := I.hok l _ hH
  exact ⟨z, its, n, r, r.length, e⟩

end

section
variable {X : Cx}

inductive I_rAppend (x : V) (vs : List V) (H : Hp) (Q : VK) : Prop
  | mk (l : _) (xs : _) (y : _) (q0 : x = .ref l) (q1 : vs = [y]) (q2 : H l = some (.lst xs)) (q3 : xs.length < sizeLine) (q4 : Q .non (upd H l (.lst (xs ++ [y])))) : I_rAppend x vs H Q
noncomputable def rAppend : V → List V → Hp → VK → Prop := fun x vs H Q => I_rAppend x vs H Q
theorem mt_append : MtM X "list.append" rAppend := by
  intro pins s σ H x vs v us Q I rx rv h
  obtain ⟨l, xs, y, rfl, rfl, hH, hz, q⟩ := h
  cases rx
  obtain ⟨u, rfl, ru⟩ := rv.one
  obtain ⟨z, its, n, r, hl, e⟩ := I.lstM hH
  refine call_meets F.slot_list_append ⟨_, e, rfl⟩ F.entry_list_append (F.args_list_append_2 _ _) (PySem.list_append l its.toArray n u (by rw [List.size_toArray]; first | lia | omega)) ⟨e, ?_⟩
  refine ⟨.non, _, I.lset (its' := its ++ [u]) hH e (by simp) (r.append (.cons ru .nil)) ?_, rfl, q⟩
  rw [List.length_append, List.length_singleton]
  first | lia | omega

inductive I_rPopAt (x : V) (vs : List V) (H : Hp) (Q : VK) : Prop
  | mk (l : _) (xs : _) (i : _) (k : _) (y : _) (q0 : x = .ref l) (q1 : vs = [.int i]) (q2 : H l = some (.lst xs)) (q3 : -(2 ^ 63) ≤ i) (q4 : i < 2 ^ 63) (q5 : seqIndex? i xs.length = some k) (q6 : xs[k]? = some y) (q7 : Q y (upd H l (.lst (xs.eraseIdx k)))) : I_rPopAt x vs H Q
noncomputable def rPopAt : V → List V → Hp → VK → Prop := fun x vs H Q => I_rPopAt x vs H Q
theorem mt_popAt : MtM X "list.pop" rPopAt := by
  intro pins s σ H x vs v us Q I rx rv h
  obtain ⟨l, xs, i, k, y, rfl, rfl, hH, h1, h2, hk, hy, q⟩ := h
  cases rx
  obtain ⟨u, rfl, ru⟩ := rv.one
  obtain ⟨t, rfl⟩ := ru
  obtain ⟨z, its, n, r, hl, e⟩ := I.lstM hH
  obtain ⟨w, hw, rw'⟩ := r.get hy
  refine call_meets F.slot_list_pop ⟨_, e, rfl⟩ F.entry_list_pop (F.args_list_pop_2 _ _)
    (MeetsSeq.list_pop_at l its.toArray n i t k w (fitsIndex_both h1 h2) (by rw [List.size_toArray, ← hl]; exact hk) (by rw [← Array.getElem?_toList]; exact hw) (by rw [List.size_toArray]; first | lia | omega)) ⟨e, ?_⟩
  refine ⟨y, _, I.lset (its' := its.eraseIdx k) hH e ?_ (r.eraseIdx k) ?_, rw', q⟩
  · show its.toArray.eraseIdxIfInBounds k = (its.eraseIdx k).toArray
    rw [List.eraseIdxIfInBounds_toArray]
  · have := len_erase xs k
    first | lia | omega

inductive I_rClear (x : V) (vs : List V) (H : Hp) (Q : VK) : Prop
  | mk (l : _) (xs : _) (q0 : x = .ref l) (q1 : vs = []) (q2 : H l = some (.lst xs)) (q3 : Q .non (upd H l (.lst []))) : I_rClear x vs H Q
noncomputable def rClear : V → List V → Hp → VK → Prop := fun x vs H Q => I_rClear x vs H Q
theorem mt_clear : MtM X "list.clear" rClear := by
  intro pins s σ H x vs v us Q I rx rv h
  obtain ⟨l, xs, rfl, rfl, hH, q⟩ := h
  cases rx
  have hus := rv.zero
  subst hus
  obtain ⟨z, its, n, r, hl, e⟩ := I.lstM hH
  refine call_meets F.slot_list_clear ⟨_, e, rfl⟩ F.entry_list_clear (F.args_list_clear_1 _) (AutoSeq1.list_clear_list_0 l its.toArray n (by rw [List.size_toArray]; first | lia | omega)) ⟨e, ?_⟩
  exact ⟨.non, _, I.lset (its' := []) (ys := []) hH e rfl .nil (Nat.zero_le _), rfl, q⟩

end

section
variable {prog : Program} {w : World} {A : Around} {E : Value → Shared → Prop} {s : Shared}
end

section
variable {X : Cx}
end
end L2

namespace L2
open PySem PySem.Spec PyProof.Rows

section
variable {κ : Type} [DecidableEq κ]
noncomputable def valV (kvs : List (κ × V)) (k : κ) : Option V := (kvs.find? fun kv => decide (kv.1 = k)).map (·.2)
noncomputable def putK (kvs : List (κ × V)) (k : κ) (v : V) : List (κ × V) :=
  if (kvs.any fun kv => decide (kv.1 = k)) = true then kvs.map (fun kv => if kv.1 = k then (kv.1, v) else kv) else kvs ++ [(k, v)]
noncomputable def dropK (kvs : List (κ × V)) (k : κ) : List (κ × V) := kvs.filter fun kv => decide (kv.1 ≠ k)

theorem valV_nil {k : κ} : valV ([] : List (κ × V)) k = none := rfl
theorem valV_pos {p : κ × V} {r : List (κ × V)} {k : κ} (e : p.1 = k) : valV (p :: r) k = some p.2 := by simp [valV, List.find?_cons, e]
theorem valV_neg {p : κ × V} {r : List (κ × V)} {k : κ} (e : ¬ p.1 = k) : valV (p :: r) k = valV r k := by simp [valV, List.find?_cons, e]
theorem valV_any (k : κ) : ∀ kvs : List (κ × V), (kvs.any fun kv => decide (kv.1 = k)) = (valV kvs k).isSome
  | [] => rfl
  | p :: r => by
    rw [List.any_cons]
    by_cases e : p.1 = k
    · simp only [valV_pos e, decide_eq_true e, Bool.true_or, Option.isSome_some]
    · rw [valV_neg e, decide_eq_false e, Bool.false_or]; exact valV_any k r
theorem length_putK (kvs : List (κ × V)) (k : κ) (v : V) : (putK kvs k v).length ≤ kvs.length + 1 := by
  unfold putK
  split
  · rw [List.length_map]; first | lia | omega
  · rw [List.length_append, List.length_cons, List.length_nil]; first | lia | omega
theorem putK_new {kvs : List (κ × V)} {k : κ} (v : V) (h : valV kvs k = none) : putK kvs k v = kvs ++ [(k, v)] := by
  unfold putK
  rw [valV_any, h]
  exact if_neg (by decide)

theorem RelO.isSome_eq {o : Option V} {u : Option Value} (r : RelO o u) : o.isSome = u.isSome := by
  cases o with
  | none => cases u with
    | none => rfl
    | some _ => exact (show False from r).elim
  | some _ => cases u with
    | none => exact (show False from r).elim
    | some _ => rfl
theorem KV.val {kvs : List (κ × V)} {vs : List (κ × Value)} (r : KV kvs vs) (k : κ) : RelO (valV kvs k) (valueAt vs k) := by
  unfold KV at r
  induction r with
  | nil => exact True.intro
  | @cons p q ps qs h t ih =>
    obtain ⟨h1, h2⟩ := h
    by_cases e : p.1 = k
    · have e' : q.1 = k := h1.symm.trans e
      have b : valueAt (q :: qs) k = some q.2 := by simp [valueAt, List.find?_cons, e']
      rw [valV_pos e, b]; exact h2
    · have e' : ¬ q.1 = k := fun z => e (h1.trans z)
      have b : valueAt (q :: qs) k = valueAt qs k := by simp [valueAt, List.find?_cons, e']
      rw [valV_neg e, b]; exact ih
theorem KV.any {kvs : List (κ × V)} {vs : List (κ × Value)} (r : KV kvs vs) (k : κ) : (kvs.any fun kv => decide (kv.1 = k)) = vs.any fun kv => decide (kv.1 = k) := by
  unfold KV at r
  induction r with
  | nil => rfl
  | cons h t ih => rw [List.any_cons, List.any_cons, ih, h.1]
theorem KV.repl {kvs : List (κ × V)} {vs : List (κ × Value)} (r : KV kvs vs) (k : κ) {y : V} {u : Value} (ry : RelV y u) :
    KV (kvs.map fun kv => if kv.1 = k then (kv.1, y) else kv) (vs.map fun kv => if kv.1 = k then (kv.1, u) else kv) := by
  unfold KV at r ⊢
  induction r with
  | nil => exact .nil
  | @cons p q ps qs h t ih =>
    rw [List.map_cons, List.map_cons]
    refine .cons ?_ ih
    obtain ⟨h1, h2⟩ := h
    by_cases e : p.1 = k
    · rw [if_pos e, if_pos (h1.symm.trans e)]; exact ⟨h1, ry⟩
    · rw [if_neg e, if_neg (fun z => e (h1.trans z))]; exact ⟨h1, h2⟩
theorem KV.put {kvs : List (κ × V)} {vs : List (κ × Value)} (r : KV kvs vs) (k : κ) {y : V} {u : Value} (ry : RelV y u) : KV (putK kvs k y) (stored vs k u) := by
  unfold putK stored
  rw [r.any k]
  by_cases e : (vs.any fun kv => decide (kv.1 = k)) = true
  · rw [if_pos e, if_pos e]; exact r.repl k ry
  · rw [if_neg e, if_neg e]; exact Paired.snoc r ⟨rfl, ry⟩
theorem KV.length {kvs : List (κ × V)} {vs : List (κ × Value)} (r : KV kvs vs) : kvs.length = vs.length := Paired.length r
end


theorem kV_is {P : Program} {w : World} {k : Key} {u : Value} (r : RelV (kV k) u) : (mixKind P w).is k u = true := by
  cases k with
  | inl i => obtain ⟨t, e⟩ := (show ∃ t, u = Value.int i t from r); subst e; exact mixKind_int P w i t
  | inr x => obtain ⟨t, e⟩ := (show ∃ t, u = Value.str x t from r); subst e; exact mixKind_str P w x t
theorem items_are {P : Program} {w : World} : ∀ {ks : List Key} {us : List Value}, Vals (ks.map kV) us → ItemsAre (mixKind P w) ks us
  | [], _, r => by rw [List.map_nil] at r; cases r; exact .nil
  | k :: ks, _, r => by
    rw [List.map_cons] at r
    cases r with
    | cons h t => exact .cons (kV_is h) (items_are t)

noncomputable abbrev KT (H : Hp) : List (List Key × V) → List (List Key × Addr × Value) → Prop := Paired fun p q => p.1 = q.1 ∧ H q.2.1 = some (.tup (p.1.map kV)) ∧ RelV p.2 q.2.2
theorem KT.val {H : Hp} {kvs : List (List Key × V)} {xs : List (List Key × Addr × Value)} (r : KT H kvs xs) (k : List Key) : RelO (valV kvs k) ((atKey xs k).map (·.2)) := by
  induction r with
  | nil => exact True.intro
  | @cons p q ps qs h t ih =>
    obtain ⟨h1, _, h2⟩ := h
    by_cases e : p.1 = k
    · have e' : q.1 = k := h1.symm.trans e
      have b : atKey (q :: qs) k = some q.2 := by simp [atKey, List.find?_cons, e']
      rw [valV_pos e, b]; exact h2
    · have e' : ¬ q.1 = k := fun z => e (h1.trans z)
      have b : atKey (q :: qs) k = atKey qs k := by simp [atKey, List.find?_cons, e']
      rw [valV_neg e, b]; exact ih
theorem KT.repl {H : Hp} {kvs : List (List Key × V)} {xs : List (List Key × Addr × Value)} (r : KT H kvs xs) (k : List Key) {y : V} {u : Value} (ry : RelV y u) :
    KT H (kvs.map fun kv => if kv.1 = k then (kv.1, y) else kv) (xs.map (putAt k u)) := by
  induction r with
  | nil => exact .nil
  | @cons p q ps qs h t ih =>
    rw [List.map_cons, List.map_cons]
    refine .cons ?_ ih
    obtain ⟨h1, h2, h3⟩ := h
    unfold putAt
    by_cases e : p.1 = k
    · rw [if_pos e, if_pos (h1.symm.trans e)]; exact ⟨h1, h2, ry⟩
    · rw [if_neg e, if_neg (fun z => e (h1.trans z))]; exact ⟨h1, h2, h3⟩
theorem KT.put {H : Hp} {kvs : List (List Key × V)} {xs : List (List Key × Addr × Value)} (r : KT H kvs xs) (k : List Key) {b : Addr} {y : V} {u : Value} (hb : H b = some (.tup (k.map kV))) (ry : RelV y u) :
    KT H (putK kvs k y) (storedH xs k b u) := by
  have e : (kvs.any fun kv => decide (kv.1 = k)) = (atKey xs k).isSome := by
    rw [valV_any, (r.val k).isSome_eq, Option.isSome_map]
  unfold putK storedH
  rw [e]
  by_cases q : (atKey xs k).isSome = true
  · rw [if_pos q, if_pos q]; exact r.repl k ry
  · rw [if_neg q, if_neg q]; exact Paired.snoc r ⟨rfl, hb, ry⟩
theorem KT.keeps {H H' : Hp} {kvs : List (List Key × V)} {xs : List (List Key × Addr × Value)} (r : KT H kvs xs) (ht : ∀ b ys, H b = some (.tup ys) → H' b = some (.tup ys)) : KT H' kvs xs :=
  Paired.mapP r fun _ _ z => ⟨z.1, ht _ _ z.2.1, z.2.2⟩

section
variable {P : Program} {w : World} {H : Hp} {h : Heap} {a : Addr}
theorem rd_of {u : HO} (ok : HOk P w H h) (e : Rd H a u) : ObjOk P w H h a u := e.ok ok
theorem dk_rd {kvs : List (Key × V)} (ok : HOk P w H h) (e : Rd H a (.dK kvs)) : kvs.length ≤ sizeLine ∧ (a == sysModules) = false ∧ ∃ vs, KV kvs vs ∧ h.DictOf (mixKind P w) a vs :=
  show ObjOk P w H h a (.dK kvs) from rd_of ok e
theorem dk_of {kvs : List (Key × V)} (ok : HOk P w H h) (e : H a = some (.dK kvs)) : kvs.length ≤ sizeLine ∧ (a == sysModules) = false ∧ ∃ vs, KV kvs vs ∧ h.DictOf (mixKind P w) a vs := dk_rd ok (.inl e)
theorem key_of {ks : List Key} (ok : HOk P w H h) (e : H a = some (.tup (ks.map kV))) : (tupleKind (mixKind P w)).is h ks a := by
  obtain ⟨_, its, r, o, h1, h2, n, h3⟩ := (show ObjOk P w H h a (.tup (ks.map kV)) from ok a _ e)
  exact ⟨o, its.toArray, n, h1, h2, h3, by simpa using items_are r⟩
theorem dt_rd {kvs : List (List Key × V)} (ok : HOk P w H h) (e : Rd H a (.dT kvs)) : kvs.length ≤ sizeLine ∧ (a == sysModules) = false ∧
    ∃ xs, KT H kvs xs ∧ h.DictOfH (tupleKind (mixKind P w)) a xs := by
  obtain ⟨z, y, xs, r, o, es, ep, h1, h2, h3, h4, h5⟩ := (show ObjOk P w H h a (.dT kvs) from rd_of ok e)
  refine ⟨z, y, xs, r, o, es, ep, h1, h2, h3, h4, fun x hx => ?_, h5⟩
  have all : ∀ {l : List (List Key × V)} {m : List (List Key × Addr × Value)}, KT H l m → ∀ x ∈ m, (tupleKind (mixKind P w)).is h x.1 x.2.1 := by
    intro l m q
    induction q with
    | nil => intro x hx; exact nomatch hx
    | @cons p q ps qs hq t ih =>
      intro x hx
      rcases List.mem_cons.mp hx with e | hx
      · subst e
        exact key_of ok (by rw [← hq.1]; exact hq.2.1)
      · exact ih x hx
  exact all r x hx
theorem dt_of {kvs : List (List Key × V)} (ok : HOk P w H h) (e : H a = some (.dT kvs)) : kvs.length ≤ sizeLine ∧ (a == sysModules) = false ∧
    ∃ xs, KT H kvs xs ∧ h.DictOfH (tupleKind (mixKind P w)) a xs := dt_rd ok (.inl e)
end

noncomputable def DGet (H : Hp) (a : Addr) (y : V) (r : Option V) : Prop :=
  (∃ kvs k, Rd H a (.dK kvs) ∧ y = kV k ∧ r = valV kvs k) ∨ ∃ kvs k b, Rd H a (.dT kvs) ∧ y = .ref b ∧ H b = some (.tup (k.map kV)) ∧ r = valV kvs k
noncomputable def DPut (H : Hp) (a : Addr) (y v : V) (H' : Hp) : Prop :=
  (∃ kvs k, H a = some (.dK kvs) ∧ y = kV k ∧ kvs.length < sizeLine ∧ H' = upd H a (.dK (putK kvs k v))) ∨
  ∃ kvs k b, H a = some (.dT kvs) ∧ y = .ref b ∧ H b = some (.tup (k.map kV)) ∧ kvs.length < sizeLine ∧ H' = upd H a (.dT (putK kvs k v))
theorem DGet.k {H : Hp} {a : Addr} {kvs : List (Key × V)} {k : Key} (e : H a = some (.dK kvs)) : DGet H a (kV k) (valV kvs k) := .inl ⟨kvs, k, .inl e, rfl, rfl⟩
theorem DPut.k {H : Hp} {a : Addr} {kvs : List (Key × V)} {k : Key} {v : V} (e : H a = some (.dK kvs)) (hl : kvs.length < sizeLine) : DPut H a (kV k) v (upd H a (.dK (putK kvs k v))) := .inl ⟨kvs, k, e, rfl, hl, rfl⟩
section
variable {X : Cx} {pins : List (Addr × Obj)} {σ : St} {H : Hp} {s : Shared} {a : Addr} {y v : V} {u r : Value} {o : Option V} {A : Around} {E : Value → Shared → Prop}

theorem Inv.big (I : Inv X pins σ H s) : sysModules < s.heap.objs.size := by
  have h : mainGlobals < s.heap.objs.size := (I.mod.glob.keeps I.bk).lt
  exact Nat.lt_trans (by decide) h

theorem d_getItem {Q : Value → Shared → Prop} (hu : A.units + 1 < cLine) (I : Inv X pins σ H s) (g : DGet H a y (some v)) (ry : RelV y u) (h : ∀ w' s', Inv X pins σ H s' → RelV v w' → Q w' s') :
    wpAny (model X.prog X.w) A (getItem (.ref a) u) Q E s := by
  rcases g with ⟨kvs, k, e, ey, l⟩ | ⟨kvs, k, b, e, ey, eb, l⟩
  · subst ey
    obtain ⟨z, hd, vs, rel, dd⟩ := dk_rd I.hok e
    obtain ⟨w', hw, rw'⟩ := RelO.some_of (v := v) (o := valueAt vs k) (by rw [l]; exact rel.val k)
    exact wpAny_getItem_of (kV_is ry) dd.mapOf hw (h w' _ (I.tok _) rw')
  · subst ey
    cases (show u = Value.ref b from ry)
    obtain ⟨z, hd, xs, rel, dd⟩ := dt_rd I.hok e
    obtain ⟨w', hw, rw'⟩ := RelO.some_of (v := v) (o := (atKey xs k).map (·.2)) (by rw [l]; exact rel.val k)
    obtain ⟨p, hp, hp2⟩ := Option.map_eq_some_iff.mp hw
    refine wpAny_getItem_heap (tupleKind_room_in1 hu) (key_of I.hok eb) dd hp ?_
    rw [hp2]
    exact h w' _ (I.tok _) rw'
theorem d_write {h' : Heap} {t' : Nat} {ob : HO} (I : Inv X pins σ H s) (mu : Mut (H a)) (hs : Heap.SameBut a s.heap h') (he : ∃ q, h'.get? a = some q) (new : ObjOk X.prog X.w (upd H a ob) h' a ob) :
    Inv X pins σ (upd H a ob) { s with heap := h', toks := t' } :=
  I.write (x := a) (e := a) mu (.inl rfl) (fun b q hb z => (hs.2 b hb).trans z) he new
theorem dk_new {P : Program} {w : World} {H' : Hp} {h' : Heap} {kvs : List (Key × V)} {vs : List (Key × Value)} (z : kvs.length ≤ sizeLine) (hd : (a == sysModules) = false) (rel : KV kvs vs) (dd : h'.DictOf (mixKind P w) a vs) :
    ObjOk P w H' h' a (.dK kvs) := ⟨z, hd, vs, rel, dd⟩
theorem d_setItem {H' : Hp} {Q : Unit → Shared → Prop} (hu : A.units + 1 < cLine) (I : Inv X pins σ H s) (g : DPut H a y v H') (ry : RelV y u) (rv : RelV v r) (h : ∀ s', Inv X pins σ H' s' → Q () s') :
    wpAny (model X.prog X.w) A (setItem (.ref a) u r) Q E s := by
  rcases g with ⟨kvs, k, e, ey, l, eH⟩ | ⟨kvs, k, b, e, ey, eb, l, eH⟩
  · subst ey eH
    obtain ⟨z, hd, vs, rel, dd⟩ := dk_of I.hok e
    have hz : vs.length ≤ sizeLine := by rw [← rel.length]; exact z
    have hl : (putK kvs k v).length ≤ sizeLine := by have := length_putK kvs k v; first | lia | omega
    refine wpAny_setItem_pairs (hsz := hz) (kV_is ry) dd fun h' dd' hs => h _ ?_
    have he : ∃ q, h'.get? a = some q := let ⟨q, _, _, hq, _⟩ := dd'; ⟨q, hq⟩
    exact d_write I (by rw [e]; exact True.intro) hs he (dk_new hl hd (rel.put k rv) dd')
  · subst ey eH
    cases (show u = Value.ref b from ry)
    obtain ⟨z, hd, xs, rel, dd⟩ := dt_of I.hok e
    have hz : xs.length ≤ sizeLine := by rw [← Paired.length rel]; exact z
    have hl : (putK kvs k v).length ≤ sizeLine := by have := length_putK kvs k v; first | lia | omega
    refine wpAny_setItem_heap (hsz := hz) (tupleKind_room_in1 hu) (key_of I.hok eb) dd fun h' dd' hs => h _ ?_
    obtain ⟨q, es, ep, hq, h2, h3, h4, _, h5⟩ := dd'
    refine d_write I (by rw [e]; exact True.intro) hs ⟨q, hq⟩ ⟨hl, hd, _, (rel.put k eb rv).keeps fun c ys ec => ?_, q, es, ep, hq, h2, h3, h4, h5⟩
    rw [upd_ne (ne_of ec e (fun z => nomatch z))]
    exact ec
end

section
variable {X : Cx} {pins : List (Addr × Obj)} {σ : St} {H : Hp} {s : Shared} {a : Addr} {kvs : List (Key × V)} {k : Key} {u : Value} {A : Around} {E : Value → Shared → Prop}
end


noncomputable def NoSl (i : Expr) : Prop := ∀ ov iv, subscripted i false ov iv = operate [ov, iv] (getItem ov iv)
theorem subD_of {prog : Program} {w : World} {A : Around} {E : Value → Shared → Prop} {s : Shared} {env : Env} {value slice : Expr} {pos : Pos} {T id : String} {Q : Value → Shared → Prop}
    (hl : typeLookup (.type T) "__getitem__" = pure (some (.builtin id))) (hs : NoSl slice)
    (h : wpAny (model prog w) A (eval value env) (fun o s₁ => wpAny (model prog w) A (eval slice env) (fun i s₂ => s₂.TypeIs o T ∧ wpAny (model prog w) A (getItem o i) Q E s₂) E s₁) E s) :
    wpAny (model prog w) A (eval (.Subscript value slice pos) env) Q E s := by
  refine Subscript_ (wpAny_mono h (fun o s₁ h₁ => wpAny_mono h₁ (fun i s₂ h₂ => ?_) fun _ _ x => x) fun _ _ x => x)
  obtain ⟨hT, h₂⟩ := h₂
  unfold subscriptTail
  refine wpAny_bind ?_
  rw [getitemInPython_of_ne hT.not_modules]
  refine wpAny_bind (wpAny_specialOf hT hl ?_)
  have fin : wpAny (model prog w) A (subscripted slice false o i) (fun r s₃ => wpAny (model prog w) A (letTemporaryGo value o r >>= fun _ => pure r) Q E s₃) E s₂ := by
    rw [hs o i]
    exact wpAny_operating (wpAny_mono h₂ (fun r s₃ h₃ => wpAny_bind (wpAny_letTemporaryGo (wpAny_pure h₃))) fun _ _ x => x)
  first
    | exact wpAny_pure (wpAny_bind fin)
    | exact wpAny_bind (wpAny_pure (wpAny_bind fin))
    | exact wpAny_bind fin

theorem dict_typeIs {X : Cx} {pins : List (Addr × Obj)} {σ : St} {H : Hp} {s : Shared} {a : Addr} {y : V} {o : Option V} (I : Inv X pins σ H s) (g : DGet H a y o) : s.TypeIs (.ref a) "dict" := by
  rcases g with ⟨kvs, k, e, _, _⟩ | ⟨kvs, k, b, e, _, _, _⟩
  · obtain ⟨_, _, vs, _, dd⟩ := dk_rd I.hok e
    exact dd.typeIs
  · obtain ⟨_, _, xs, _, dd⟩ := dt_rd I.hok e
    exact dd.typeIs
noncomputable def tDGet (td ty : TE) : TE := fun σ H Q => td σ H fun x H1 => ty σ H1 fun y H2 => ∃ a v, x = .ref a ∧ DGet H2 a y (some v) ∧ Q v H2
noncomputable def sDPut (td ty tv : TE) : TS := fun D σ H => tv σ H fun v H1 => td σ H1 fun x H2 => ty σ H2 fun y H3 => ∃ a H4, x = .ref a ∧ DPut H3 a y v H4 ∧ D.nx σ H4
section
variable {X : Cx} {o i e value : Expr} {pos pos' tpos : Pos} {td ty tv : TE}
theorem pe_dget (hu : X.A.units + 1 < cLine) (ho : PE X o td) (hi : PE X i ty) (hs : NoSl i) : PE X (.Subscript o i pos) (tDGet td ty) := by
  constructor
  intro pins s σ H Q I h
  refine subD_of PySem.F.slot_dict_getitem.lookup hs (thn (ho pins s σ H _ I h) fun u s1 ⟨x, H1, I1, rx, q1⟩ => thn (hi pins s1 σ H1 _ I1 q1) fun iv s2 ⟨y, H2, I2, ry, a, v, ex, g, q2⟩ => ?_)
  subst ex
  obtain rfl : u = Value.ref a := rx
  exact ⟨dict_typeIs I2 g, d_getItem hu I2 g ry fun w' s3 I3 rw' => ⟨v, H2, I3, rw', q2⟩⟩
theorem ps_dput (hu : X.A.units + 1 < cLine) (ho : PE X o td) (hi : PE X i ty) (hv : PE X value tv) (hs : swapsWith value (some (.Subscript o i pos')) pos.line X.env = pure false) :
    PS X (.Assign [.Subscript o i pos'] value pos) (sDPut td ty tv) := by
  constructor
  intro pins s σ H D I h
  refine wpAny_Assign_Subscript (thn (hv pins s σ H _ I h) fun r s1 ⟨v, H1, I1, rv, q1⟩ => thn (ho pins s1 σ H1 _ I1 q1) fun u s2 ⟨x, H2, I2, rx, q2⟩ => thn (hi pins s2 σ H2 _ I2 q2) fun iv s3 ⟨y, H3, I3, ry, a, H4, ex, g, q3⟩ => ?_) hs
  subst ex
  obtain rfl : u = Value.ref a := rx
  exact d_setItem hu I3 g ry rv fun s4 I4 => ⟨σ, H4, I4, q3⟩
end


theorem dk_empty {P : Program} {w : World} {H : Hp} (h : Heap) (hb : sysModules < h.objs.size) : ObjOk P w H (h.push { cls := .type "dict", data := .dict #[] }) h.objs.size (.dK []) :=
  ⟨Nat.zero_le _, beq_eq_false_iff_ne.mpr (Ne.symm (Nat.ne_of_lt hb)), [], .nil, Heap.DictOf.new h⟩
section
variable {X : Cx} {pos : Pos}
end

noncomputable def tPairs : List (TE × TE) → St → Hp → (List (V × V) → Hp → Prop) → Prop
  | [], _, H, Q => Q [] H
  | (tk, tv) :: r, σ, H, Q => tk σ H fun x H1 => tv σ H1 fun y H2 => tPairs r σ H2 fun ps H3 => Q ((x, y) :: ps) H3
noncomputable abbrev VV : List (V × V) → List (Value × Value) → Prop := Paired fun p q => RelV p.1 q.1 ∧ RelV p.2 q.2
noncomputable def PPs (X : Cx) (pos : Pos) (keys : List (Option Expr)) (values : List Expr) (trs : List (TE × TE)) : Prop :=
  ∀ (pins : List (Addr × Obj)) (s : Shared) (σ : St) (H : Hp) (Q : List (V × V) → Hp → Prop), Inv X pins σ H s → tPairs trs σ H Q →
    wpAny (model X.prog X.w) X.A (evalPairs (pairTrees keys values X.env pos)) (fun vs s' => ∃ ps H', Inv X pins σ H' s' ∧ VV ps vs ∧ Q ps H') X.xe s
theorem pps_nil {X : Cx} {pos : Pos} : PPs X pos [] [] [] := fun pins s σ H Q I h => pairTrees_nil_walk ⟨[], H, I, .nil, h⟩
theorem pps_cons {X : Cx} {pos : Pos} {k v : Expr} {ks : List (Option Expr)} {vs : List Expr} {tk tv : TE} {trs : List (TE × TE)} (hk : PE X k tk) (hv : PE X v tv) (hr : PPs X pos ks vs trs) :
    PPs X pos (some k :: ks) (v :: vs) ((tk, tv) :: trs) := fun pins s σ H Q I h =>
  pairTrees_cons_walk (thn (hk pins s σ H _ I h) fun u s1 ⟨x, H1, I1, rx, q1⟩ => thn (hv pins s1 σ H1 _ I1 q1) fun w2 s2 ⟨y, H2, I2, ry, q2⟩ =>
    thn (hr pins s2 σ H2 _ I2 q2) fun ws s3 ⟨ps, H3, I3, rel, q3⟩ => ⟨(x, y) :: ps, H3, I3, .cons ⟨rx, ry⟩ rel, q3⟩)

noncomputable def mergeK (kvs more : List (Key × V)) : List (Key × V) := more.foldl (fun acc kv => putK acc kv.1 kv.2) kvs
theorem KV.merge : ∀ {more : List (Key × V)} {rs : List (Key × Value)} {kvs : List (Key × V)} {vs : List (Key × Value)}, KV more rs → KV kvs vs → KV (mergeK kvs more) (merged vs rs) := by
  intro more rs kvs vs r
  unfold KV at r
  induction r generalizing kvs vs with
  | nil => intro q; exact q
  | @cons p q ps qs h t ih =>
    intro r0
    have e : KV (putK kvs p.1 p.2) (stored vs q.1 q.2) := by
      have := r0.put p.1 h.2
      rw [← h.1]; exact this
    exact ih e
theorem length_mergeK : ∀ (more kvs : List (Key × V)), (mergeK kvs more).length ≤ kvs.length + more.length
  | [], kvs => by show kvs.length ≤ kvs.length + 0; first | lia | omega
  | p :: r, kvs => by
    have h1 := length_mergeK r (putK kvs p.1 p.2)
    have h2 := length_putK kvs p.1 p.2
    show (mergeK (putK kvs p.1 p.2) r).length ≤ _
    rw [List.length_cons]; first | lia | omega
theorem carries_of {P : Program} {w : World} : ∀ {kvs : List (Key × V)} {ws : List (Value × Value)}, VV (kvs.map fun kv => (kV kv.1, kv.2)) ws → ∃ rs, Carries (mixKind P w) ws rs ∧ KV kvs rs
  | [], _, r => by rw [List.map_nil] at r; cases r; exact ⟨[], True.intro, .nil⟩
  | p :: kvs, _, r => by
    rw [List.map_cons] at r
    cases r with
    | @cons a b as bs h t =>
      obtain ⟨rs, c, q⟩ := carries_of (P := P) (w := w) t
      obtain ⟨b1, b2⟩ := b
      exact ⟨(p.1, b2) :: rs, ⟨kV_is h.1, rfl, c⟩, .cons ⟨rfl, h.2⟩ q⟩
noncomputable def tDisp (trs : List (TE × TE)) : TE := fun σ H Q => ∀ p, H p = none → tPairs trs σ (upd H p (.dK [])) fun ps H2 => H2 p = some (.dK []) ∧ ∃ kvs : List (Key × V), ps = kvs.map (fun kv => (kV kv.1, kv.2)) ∧ kvs.length ≤ 15 ∧ Q (.ref p) (upd H2 p (.dK (mergeK [] kvs)))
theorem pe_disp {X : Cx} {pos : Pos} {keys : List (Option Expr)} {values : List Expr} {trs : List (TE × TE)} (h : PPs X pos keys values trs) (hall : keys.all (·.isSome) = true) (hl : keys.length = values.length) (h0 : keys ≠ [])
    (h15 : keys.length ≤ 15) : PE X (.Dict keys values pos) (tDisp trs) := by
  constructor
  intro pins s σ H Q I q
  have hn := I.hok.fresh (Nat.le_refl s.heap.objs.size)
  have I1 := I.laid (a := s.heap.objs.size) (o := .dK []) (h' := s.heap.push { cls := .type "dict", data := .dict #[] }) (t' := s.toks) (fun _ _ q => Heap.get?_push_of_some _ q) (Nat.le_refl _) (dk_empty s.heap I.big)
  refine wpAny_Dict_walk (knd := mixKind X.prog X.w) hall hl h0 h15 (thn (h pins _ σ _ _ I1 (q _ hn)) fun ws s2 ⟨ps, H2, I2, rel, e, kvs, ep, lk, q2⟩ => ?_)
  subst ep
  obtain ⟨rs, c, rk⟩ := carries_of (P := X.prog) (w := X.w) rel
  obtain ⟨z, hd, vs0, r0, dd⟩ := dk_of I2.hok e
  cases r0
  refine ⟨rs, c, dd, fun h' dd' hs => ⟨.ref s.heap.objs.size, _, ?_, rfl, q2⟩⟩
  have hz : (mergeK [] kvs).length ≤ sizeLine := by
    have h1 := length_mergeK kvs []
    rw [List.length_nil] at h1
    rw [sizeLine_eq]; first | lia | omega
  have he : ∃ q, h'.get? s.heap.objs.size = some q := let ⟨q, _, _, hq, _⟩ := dd'; ⟨q, hq⟩
  exact d_write I2 (by rw [e]; exact True.intro) hs he (dk_new hz hd (rk.merge .nil) dd')


structure M1 (X : Cx) (o : Expr) (m : Str) (apos : Pos) (e : Expr) (cpos : Pos) : Prop where
  base : attributeBase o m X.env (eval o X.env) = eval o X.env
  few : ((backTo cpos (starEach [e] X.env)).all (fun x => !x.1) && (backToKw cpos (keywordEach [] X.env)).all (fun x => x.1.isSome)
    && decide (([e] : List Expr).length + ([] : List Keyword).length + (if ([] : List Keyword).isEmpty then 0 else 1) < 30)) = true
  line : (apos.endLine == cpos.line) = true
  trees : backTo cpos (starEach [e] X.env) = [(false, eval e X.env)]
structure M2 (X : Cx) (o : Expr) (m : Str) (apos : Pos) (e f : Expr) (cpos : Pos) : Prop where
  base : attributeBase o m X.env (eval o X.env) = eval o X.env
  few : ((backTo cpos (starEach [e, f] X.env)).all (fun x => !x.1) && (backToKw cpos (keywordEach [] X.env)).all (fun x => x.1.isSome)
    && decide (([e, f] : List Expr).length + ([] : List Keyword).length + (if ([] : List Keyword).isEmpty then 0 else 1) < 30)) = true
  line : (apos.endLine == cpos.line) = true
  trees : backTo cpos (starEach [e, f] X.env) = [(false, eval e X.env), (false, eval f X.env)]

section
variable {X : Cx} {pins : List (Addr × Obj)} {σ : St} {H : Hp} {s : Shared} {a : Addr} {y d : V} {u r : Value} {o : Option V} {A : Around} {E : Value → Shared → Prop}
end

section
variable {X : Cx} {o e f : Expr} {apos cpos : Pos} {td ty tx : TE}
end

section
variable {X : Cx} {pins : List (Addr × Obj)} {σ : St} {H : Hp} {s : Shared} {a : Addr} {kvs : List (Key × V)} {A : Around} {E : Value → Shared → Prop}
end


section
variable {X : Cx} {pins : List (Addr × Obj)} {σ : St} {H : Hp} {s : Shared} {a : Addr} {y : V} {u : Value} {A : Around} {E : Value → Shared → Prop}
end
end L2

namespace Att
open PySem PySem.W PySem.Calls PyProof.Rows

theorem ints_of_wellAll {P : Params} {h : Heap} : ∀ (ns : List Int) (vs : List Value), WellAll P h vs (ns.map WData.int) → IntsAre vs ns := by
  intro ns
  induction ns with
  | nil =>
    intro vs w
    rw [List.map_nil] at w
    cases w
    exact .nil
  | cons n ns ih =>
    intro vs w
    rw [List.map_cons] at w
    cases w with
    | cons a b =>
      cases a
      exact .cons _ _ (ih _ b)

theorem script_of {l : OpenLaw} {n : Nat} (hn : l.most = some n) {P : Params} {h : Heap} {args : List WData} {vals : List Value}
    (hpre : l.row.toRowW.claim.pre args = true) (hwl : WellAll P h vals args) :
    ∃ a vs ns, vals = [Value.ref a] ∧ args = [WData.list (ns.map WData.int)] ∧ h.get? a = some { cls := .type "list", data := .seq vs.toArray } ∧ IntsAre vs ns ∧ ns.length ≤ n := by
  have hsh : WShape.hasAll [] args [.list .int] = true := (pre_splitW hpre).1
  have hc : l.pre.holds [] { args := args } = true := (pre_splitW hpre).2
  obtain ⟨d, r, rfl, h1, h2⟩ := hasAllW_cons hsh
  obtain rfl := hasAllW_nil h2
  obtain ⟨xs, rfl, h3⟩ := hasW_list h1
  obtain ⟨ns, rfl⟩ := items_int h3
  have hlen : ns.length ≤ n := by
    unfold OpenLaw.pre at hc
    have h4 : (WTm.not (.lt (.lit (.int (n : Int))) (.len (.arg 0)))).holds [] { args := [.list (ns.map .int)] } = true := by
      have h4 := (holds_andW hc).1
      rw [hn] at h4
      exact h4
    have h5 := condW_of h4 (w_not (w_lt w_lit (w_len_list (w_arg rfl))))
    rw [List.length_map] at h5
    refine Nat.le_of_not_lt fun q => ?_
    have q' : (n : Int) < ((ns.length : Nat) : Int) := by first | lia | omega
    first
      | (rw [decide_eq_true q'] at h5; exact absurd h5 (by decide))
      | (simp at h5; first | lia | omega)
  cases hwl with
  | cons w1 w2 =>
    cases w2
    cases w1 with
    | list ho hall => exact ⟨_, _, ns, rfl, rfl, ho, ints_of_wellAll ns _ hall, hlen⟩

theorem post_true (l : OpenLaw) (args : List WData) : l.row.toRowW.claim.post args (.bool true) args = true :=
  postW_of (r := l.row.toRowW) (X := (true == true))
    (show WShape.has [] (.bool true) .bool = true by first | rfl | decide | simp [WShape.has, WShape.arms, WShape.armsAll])
    (show (WTm.eq .res (.lit (.bool true))).value [] { args := args, res := some (.bool true), after := args } = some (.bool (true == true)) from w_eq_bool (w_res rfl) w_lit) rfl

theorem attach_call {l : OpenLaw} {n : Nat} {q : Program} {loose : List Str} {XP : (Str → Option Value) → Heap → Prop} {YP : World → Heap → Prop} {d : DefRec}
    (hn : l.most = some n) (hdf : d.params.defaults = [])
    (call : ∀ (w : World) (s₀ s₁ : Shared) (mg mb : Str → Option Value) (fa : Addr) (o : Obj) (pm cd doc : Value) (a : Addr) (vs : List Value) (ns : List Int),
      Ground q loose [] XP w s₀ mg mb s₁.heap → YP w s₁.heap →
      s₁.heap.get? fa = some o → o.data = .func (docDef d.name d.params d.body d.scope pm cd doc) → s₁.heap.CodeRec cd d.name → mg d.name = some (.ref fa) →
      s₁.heap.get? a = some { cls := .type "list", data := .seq vs.toArray } → IntsAre vs ns → ns.length ≤ n → s₁.gens = #[] →
      codeAny (model l.prog w) callerA (.call (.ref fa) ⟨[.ref a], []⟩) (fun r s' => r = .ok (.ret (.bool true)) ∧ OldK s₁.heap s'.heap ∧ s'.os = s₁.os ∧ AllBare s'.gens) s₁) :
    WalkO q loose XP YP l.row.toRowW d [] (fun f vs => PySem.call f vs) := by
  intro w s₀ s₁ mg mb G Y fa o pm cd doc dV kV ho hd hcd hD hmg hg args vals as hpre hlay hrd hwl hlo
  obtain rfl : dV = .none := Dflts.none hD hdf
  obtain rfl : kV = .none := Dflts.noKw hD
  obtain ⟨a, vs, ns, rfl, rfl, hobj, hints, hlen⟩ := script_of hn hpre hwl
  refine enter_call (codeAny_mono (call w s₀ s₁ mg mb fa o pm cd doc a vs ns G Y ho (fd_plain hd) hcd hmg hobj hints hlen hg) fun r s' hq => ?_)
  obtain ⟨rfl, h2, h3, h4⟩ := hq
  exact ⟨.inl ⟨.bool true, .bool true, [], rfl, fun _ => rfl, .bool true, post_true l _, fun _ => ⟨List.Pairwise.nil, fun _ hm => (nomatch hm)⟩⟩, h2, h3, h4⟩

section
variable {prog : Program} {w : World} {A : Around} {E : Value → Shared → Prop} {s : Shared} {K : Frag}

end
end Att

namespace L2
open PySem PySem.Spec PyProof.Rows

theorem vals_ints : ∀ {vs : List Value} {ns : List Int}, IntsAre vs ns → Vals (ns.map V.int) vs
  | _, _, .nil => .nil
  | _, _, .cons n t h => .cons ⟨t, rfl⟩ (vals_ints h)

noncomputable def Only (H : Hp) : Prop := ∀ b, H b = none ∨ ∃ o xs, H b = some (.frz o (.lst xs))

theorem law_call {P : Program} {w : World} {K : PySem.W.Frag} {mg mb : Str → Option Value} {CX : CXT} {k : Nat} {fa a : Addr} {fd : FuncData} {x : Str} {sp : Sp} {s₁ : Shared} {vs : List Value} {ns : List Int}
    (KX : K.In s₁.heap) (hns : s₁.heap.Ns mainGlobals mg) (hb : s₁.heap.Ns builtinsNs mb) (hbb : ∀ x : Str, x ≠ "__name__" → mb x = bootBuiltins x) (hlim : s₁.heap.NoLimit) (hg : s₁.gens = #[])
    (ha : s₁.heap.get? a = some { cls := .type "list", data := .seq vs.toArray }) (hi : IntsAre vs ns) (hl : ns.length ≤ sizeLine) (hr : Room k callerA)
    (F : ∀ base : Heap, K.In base → base.Ns mainGlobals mg → FnOk P w K mg base CX k fa fd [x] sp) (hbind : ∀ (s : Shared) (u : Value), BindsTo s fd ⟨[u], []⟩ [(x, u)])
    (hsp : ∀ H : Hp, Only H → SqL K H a (ns.map V.int) → sp [.ref a] H (fun v _ => v = .bl true) fun _ _ _ => False)
    (hCX : ∀ H e s', CX [] H s₁ (fun _ _ _ => False) e s' → False) :
    codeAny (model P w) callerA (.call (.ref fa) ⟨[.ref a], []⟩) (fun r s' => r = .ok (.ret (.bool true)) ∧ OldK s₁.heap s'.heap ∧ s'.os = s₁.os ∧ AllBare s'.gens) s₁ := by
  have rv := vals_ints hi
  have lenV := hi.length
  -- from an abstract heap in which nothing but the script may be tracked
  have core : ∀ H : Hp, Only H → SqL K H a (ns.map V.int) → HOk P w H s₁.heap → (∀ b, H b ≠ none → b = a) → (H a ≠ none → K.lookup a = none) →
      codeAny (model P w) callerA (.call (.ref fa) ⟨[.ref a], []⟩) (fun r s' => r = .ok (.ret (.bool true)) ∧ OldK s₁.heap s'.heap ∧ s'.os = s₁.os ∧ AllBare s'.gens) s₁ := by
    intro H hO hS hok hA hK
    have base_of : ∀ {b : Addr} {o : Obj}, s₁.heap.get? b = some o → H b = none → (hidT s₁.heap H).get? b = some o := fun e n => hidT_get e n
    have noA : ∀ {b : Addr} {o : Obj} {es : Array DictEntry} {ep : Nat}, s₁.heap.get? b = some o → o.data = .dict es ep → H b = none := fun {b o es ep} e d => by
      cases q : H b with
      | none => rfl
      | some u =>
        have e' : b = a := hA b (by rw [q]; simp)
        subst e'
        rw [ha] at e; cases e
        have d' : Data.seq vs.toArray _ = Data.dict es ep := d
        cases d'
    have nsK : ∀ {b : Addr} {m : Str → Option Value}, s₁.heap.Ns b m → (hidT s₁.heap H).Ns b m := fun {b m} ⟨o, es, ep, e, d, r⟩ => ⟨o, es, ep, base_of e (noA e d), d, r⟩
    have hKb : K.In (hidT s₁.heap H) := fun b o e => base_of (KX b o e) (by
      cases q : H b with
      | none => rfl
      | some u =>
        have e' : b = a := hA b (by rw [q]; simp)
        subst e'
        rw [hK (by rw [q]; simp)] at e; cases e)
    have hM : Mod K mg (hidT s₁.heap H) := ⟨hKb, nsK hns, ⟨mb, nsK hb, hbb⟩, let ⟨mc, h1, h2⟩ := hlim; ⟨mc, nsK h1, h2⟩⟩
    have e0 : Env0 P w K mg (hidT s₁.heap H) callerA [] s₁ H := ⟨rfl, hM, fun b o e => of_hidT e, Nat.le_of_eq (hidT_size _ _), trivial, fun b hb => absurd (show b ∈ ([] : List Addr) from hb) (by simp), hok, .of_eq hg⟩
    refine codeAny_mono ((F _ hKb (nsK hns)).run callerA [] s₁ H ⟨[.ref a], []⟩ [.ref a] [.ref a] _ _ hr e0 (hbind s₁ (.ref a)) (.cons rfl .nil) (hsp H hO hS)) fun r s' h => ?_
    cases r with
    | error e => exact (hCX H e s' h).elim
    | ok fl =>
      cases fl with
      | next => exact False.elim h
      | brk => exact False.elim h
      | cont => exact False.elim h
      | ret u =>
        obtain ⟨v, H', os, bare, un, hok', r', q⟩ := h
        have q' : v = .bl true := q
        subst q'
        obtain rfl : u = Value.bool true := r'
        refine ⟨rfl, OldK.of_keep fun b o e => ?_, os, bare⟩
        cases q : H b with
        | none => exact un.keep b o e q (by intro z; exact absurd (show b ∈ ([] : List Addr) from z) (by simp)) (by simp)
        | some u =>
          rcases hO b with z | ⟨ob, xs, z⟩
          · rw [q] at z; cases z
          · have z2 := un.frzs b ob _ z
            obtain ⟨e1, _⟩ := hok b _ z
            obtain ⟨e2, _⟩ := hok' b _ z2
            rw [e] at e1; cases e1
            exact e2
  cases hk : K.lookup a with
  | some o =>
    -- the script is one of the module's own objects
    have e := KX a o hk
    rw [ha] at e
    cases e
    refine core (fun _ => none) (fun _ => .inl rfl) (.inr ⟨_, vs.toArray, _, hk, rfl, rfl, rfl, by rw [List.size_toArray, lenV]; exact hl, by simpa using rv⟩) (fun b u z => by have z' : (none : Option HO) = some u := z; cases z') (fun b z => absurd rfl z) fun z => absurd rfl z
  | none =>
    refine core (fun b => if b = a then some (.frz { cls := .type "list", data := .seq vs.toArray } (.lst (ns.map V.int))) else none) (fun b => ?_) (.inl (.inr ⟨{ cls := .type "list", data := .seq vs.toArray }, if_pos rfl⟩)) (fun b u z => ?_) (fun b z => ?_) fun _ => hk
    · by_cases hb : b = a
      · exact .inr ⟨_, _, if_pos hb⟩
      · exact .inl (if_neg hb)
    · by_cases hb : b = a
      · have z' := (if_pos hb).symm.trans z
        cases z'
        subst hb
        exact ⟨ha, by rw [List.length_map]; exact hl, vs, _, rv, ha⟩
      · have z' := (if_neg hb).symm.trans z
        cases z'
    · by_cases hb : b = a
      · exact hb
      · exact absurd (if_neg hb) z
end L2

namespace L2
open PySem PySem.Spec PyProof.Rows

noncomputable abbrev KOf {K : PySem.W.Frag} {h : Heap} (_ : K.In h) : PySem.W.Frag := K

theorem walk_of {l : PySem.W.OpenLaw} {n k : Nat} {q : Program} {loose : List Str} {XP : (Str → Option Value) → Heap → Prop} {YP : World → Heap → Prop} {d : DefRec} {K : Params → PySem.W.Frag} {CX : World → CXT} {sp : World → Sp} {x : Str}
    (hn : l.most = some n) (hn2 : n ≤ sizeLine) (hdf : d.params.defaults = []) (hr : Room k callerA)
    (hY : ∀ (w : World) (h : Heap), YP w h → (K w.params).In h)
    (F : ∀ (w : World) (mg : Str → Option Value) (fa : Addr) (h : Heap), (K w.params).In h → h.Ns mainGlobals mg → mg d.name = some (.ref fa) →
      ∃ fd : FuncData, (∀ (s : Shared) (u : Value), BindsTo s fd ⟨[u], []⟩ [(x, u)]) ∧
        ∀ base : Heap, (K w.params).In base → base.Ns mainGlobals mg → FnOk l.prog w (K w.params) mg base (CX w) k fa fd [x] (sp w))
    (hsp : ∀ (w : World) (H : Hp) (a : Addr) (ns : List Int), ns.length ≤ n → Only H → SqL (K w.params) H a (ns.map V.int) → sp w [.ref a] H (fun v _ => v = .bl true) fun _ _ _ => False)
    (hCX : ∀ (w : World) (H : Hp) (s : Shared) (e : Value) (s' : Shared), CX w [] H s (fun _ _ _ => False) e s' → False) :
    PySem.W.WalkO q loose XP YP l.row.toRowW d [] (fun f vs => PySem.call f vs) := by
  refine Att.attach_call hn hdf fun w s₀ s₁ mg mb fa o pm cd doc a vs ns G Y ho hd hcd hmg hobj hints hlen hg => ?_
  have KX := hY w _ Y
  obtain ⟨fd, hb, hF⟩ := F w mg fa _ KX G.T.g hmg
  exact law_call KX G.T.g G.T.b G.T.builtins G.T.nolimit hg hobj hints (Nat.le_trans hlen hn2) hr hF hb (fun H hO hS => hsp w H a ns hlen hO hS) fun H e s' => hCX w H s₁ e s'
end L2

/- THE LAST THEOREM (shape; LID, My.* are yours):
   My.Adr: a structure of the addresses that your layer names (classes, functions); My.Txt K t: a structure (Prop) of the equations over K;
   My.txt_mk : {K} {implicit addresses ..} (e1 : nsIn K mainGlobals "law" = some (some (.ref f))) (e2 : K.lookup f = some ⟨oc, od, .func (fnOf "law" "law" params body scope dV kV doc pm an cdv ct), sl⟩) (e3 : codeIn K cdv "law" = true) .. : ∃ t, My.Txt K t

set_option maxRecDepth 100000 in
set_option maxHeartbeats 0 in
theorem PySem.Challenge.cw_LID_holds : PySem.Challenge.rw_LID.Holds := by
  w_on; o_law; k_head; (case hw => w_witness2)
  k_fill
  refine L2.walk_of (l := PySem.Challenge.rw_LID) (n := 63) (k := 40) (x := "script") (CX := fun w => ..) (sp := fun _ => My.sp_law) rfl (by decide) rfl ⟨rfl, by decide, by decide⟩ (fun w h Y => PySem.W.kIn_of Y) ?F ?S ?C
  case F =>
    intro w mg fa h KX G hmg
    have T : ∃ t, My.Txt (L2.KOf KX) t := by
      dsimp only [L2.KOf]                          -- K must stand as «<heap const> w.params» for k_is
      refine' My.txt_mk ?e1 ?e2 ?e3 ..
      (case e1 => PySem.W.k_is)                    -- in the order: a name -> its address -> its object -> its parts
      (case e2 => PySem.W.k_is)
      ..
    obtain ⟨t, T⟩ := T
    have e0 := hmg.symm.trans (PySem.W.mg_of KX G T.law)
    cases e0                                       -- fa is the law's own address
    exact ⟨_, fun s u => .of_eq rfl, fun base kb nb => My.law_fn T kb nb⟩     -- if «.of_eq rfl» comes too early: refine' ⟨_, ?b, fun base kb nb => My.law_fn T kb nb⟩; exact fun s u => .of_eq rfl
  case S => exact fun w H a ns hl hO hS => ..
  case C => exact ..
(the tactic k_is has no namespace: write k_is) -/

namespace L2
open PySem PySem.Spec PyProof.Rows

noncomputable def defArgs (s : Stmt) : Arguments := match s with
  | .FunctionDef _ a _ _ _ _ _ _ _ _ => a
  | _ => { posonlyargs := [], args := [], vararg := none, kwonlyargs := [], kw_defaults := [], kwarg := none, defaults := [] }
noncomputable def defBody (s : Stmt) : List Stmt := match s with
  | .FunctionDef _ _ b _ _ _ _ _ _ _ => b
  | _ => []
noncomputable def defScope (s : Stmt) : Scope := match s with
  | .FunctionDef _ _ _ _ _ _ sc _ _ _ => sc
  | _ => { kind := .function, names := [], isGenerator := false, isCoroutine := false }

noncomputable abbrev CX0 : CXT := fun _ _ _ _ _ _ => False
noncomputable abbrev E0 : XK := fun _ _ _ => False
theorem pass0 {X : Cx} : Passes CX0 X E0 := fun _ _ _ _ _ _ _ h => h.elim

structure Fun (K : PySem.W.Frag) (x qual : Str) (st : Stmt) (f : Addr) (fd : FuncData) : Prop where
  ex : ∃ (oc : Value) (od : Option Addr) (kV doc pm : Value) (an : Option Addr) (cdv ct : Value) (osl : Array (Option Value)),
    fd = PySem.W.fnOf x qual (defArgs st) (defBody st) (defScope st) .none kV doc pm an cdv ct ∧ K.lookup f = some ⟨oc, od, .func fd, osl⟩ ∧ PySem.W.codeIn K cdv qual = true
  kp : PySem.W.keepIn K (.ref f) = true
section
variable {P : Program} {w : World} {K : PySem.W.Frag} {mg : Str → Option Value} {base : Heap}
theorem Fun.ok {x qual : Str} {st : Stmt} {f : Addr} {fd : FuncData} {N ps : List Str} {k : Nat} {sp : Sp} (F : Fun K x qual st f fd) (S : FnScope N ps (defScope st)) (len : ∀ vs H Q E, sp vs H Q E → vs.length = ps.length)
    (hbody : ∀ (cdv : Value) (A : Around) (outer : List Env) (s : Shared) (H : Hp) (vs : List V) (Q : VK) (E : XK), Room k (A.deeper (envOfC qual (defScope st) s.heap.objs.size f cdv)) → sp vs H Q E →
      ∃ t, PSs (cxOf CX0 P w K mg base N qual (defScope st) f cdv A outer s H E).nox (defBody st) t ∧ t { nx := fun _ H' => Q .non H', rt := Q } (start N vs) H) : FnOk P w K mg base CX0 (k + 1) f fd ps sp := by
  obtain ⟨oc, od, kV, doc, pm, an, cdv, ct, osl, rfl, lk, hcd⟩ := F.ex
  refine fn_of lk hcd S len fun A outer s H vs Q E hr hsp => ?_
  obtain ⟨t, h, q⟩ := hbody cdv A outer s H vs Q E hr hsp
  exact ⟨t, h.nox, q⟩
theorem Fun.binds {x qual : Str} {st : Stmt} {f : Addr} {fd : FuncData} {ps : List Str} (F : Fun K x qual st f fd)
    (h : ∀ (kV doc pm : Value) (an : Option Addr) (cdv ct : Value) (us : List Value), us.length = ps.length → bindArgs (PySem.W.fnOf x qual (defArgs st) (defBody st) (defScope st) .none kV doc pm an cdv ct) ⟨us, []⟩ = pure (ps.zip us)) : Binds K fd ps [] := by
  obtain ⟨oc, od, kV, doc, pm, an, cdv, ct, osl, rfl, lk, hcd⟩ := F.ex
  exact .all (h kV doc pm an cdv ct)
theorem fun_mk {x qual : Str} {st : Stmt} {f : Addr} {oc : Value} {od an : Option Addr} {osl : Array (Option Value)} {kV doc pm cdv ct : Value} (l : K.lookup f = some ⟨oc, od, .func (PySem.W.fnOf x qual (defArgs st) (defBody st) (defScope st) .none kV doc pm an cdv ct), osl⟩)
    (c : PySem.W.codeIn K cdv qual = true) (k : PySem.W.keepIn K (.ref f) = true) : Fun K x qual st f (PySem.W.fnOf x qual (defArgs st) (defBody st) (defScope st) .none kV doc pm an cdv ct) := ⟨⟨oc, od, kV, doc, pm, an, cdv, ct, osl, rfl, l, c⟩, k⟩
end
theorem hu_of {A : Around} {k : Nat} (hr : Room k A) : A.units + 1 < cLine := Nat.lt_of_le_of_lt (Nat.add_le_add_left (by decide : 1 ≤ 64) _) hr.units
theorem small1000 {n : Nat} (h : n ≤ 1000) : n < sizeLine := Nat.lt_of_le_of_lt h (by decide)

section
variable {X : Cx}
theorem pv (i : Nat) {x : Str} {pos : Pos} (hN : X.N[i]? = some x := by rfl) (hv : Vis X.env.scope x := by first | exact Or.inl rfl | exact Or.inr (Or.inl rfl) | exact Or.inr (Or.inr rfl)) (hd : (x == ("__debug__" : Str)) = false := by decide)
    (hcd : (x == ("__classdict__" : Str)) = false := by decide) : PE X (.Name x pos) (tVar i) := pe_var hN hv hd hcd
end

theorem iteF {A B : Prop} (h : B) : if false = true then A else B := by
  rw [if_neg Bool.false_ne_true]
  exact h
theorem iteT {A B : Prop} (h : A) : if true = true then A else B := by
  rw [if_pos rfl]
  exact h
theorem ite2 {c A B : Prop} [Decidable c] (h1 : c → A) (h2 : ¬ c → B) : if c then A else B := by
  by_cases h : c
  · rw [if_pos h]
    exact h1 h
  · rw [if_neg h]
    exact h2 h
noncomputable def Same (H H' : Hp) : Prop := ∀ b o, H b = some o → H' b = some o
theorem Same.refl (H : Hp) : Same H H := fun _ _ h => h
theorem Same.trans {H H1 H2 : Hp} (a : Same H H1) (b : Same H1 H2) : Same H H2 := fun c o h => b c o (a c o h)
theorem Same.seq {K : PySem.W.Frag} {H H' : Hp} {a : Addr} {xs : List V} (e : Same H H') (h : SqL K H a xs) : SqL K H' a xs := by
  rcases h with (h | ⟨o, h⟩) | h
  · exact .inl (.inl (e _ _ h))
  · exact .inl (.inr ⟨o, e _ _ h⟩)
  · exact .inr h

end L2

namespace L2
open PySem PySem.Spec PyProof.Rows
section
variable {X : Cx}
end
section
variable {κ : Type} [DecidableEq κ]
end
end L2


set_option linter.all false
set_option maxRecDepth 100000
set_option Elab.async false
namespace L2
open PySem PySem.Spec PyProof.Rows

section
variable {X : Cx} {pins : List (Addr × Obj)} {σ : St} {H : Hp} {s : Shared}
theorem Inv.track {D : Addr} {ob : HO} (I : Inv X pins σ H s) (hf : FpOk X pins H D) (new : ObjOk X.prog X.w (upd H D ob) s.heap D ob) : Inv X pins σ (upd H D ob) s := by
  obtain ⟨hn, hL, hfs, hex, hce, hpi⟩ := hf
  have nD : ∀ b u, H b = some u → b ≠ D := fun b u e => ne_of_none e hn
  refine I.step (g' := s.gens) (t' := s.toks) (d' := s.drawn) (h' := s.heap) (H' := upd H D ob) (ch := [D]) (fun b hb => ?_) (fun b o _ _ _ e _ => e) (fun b o _ _ _ e _ => ⟨o.slots, e⟩) (fun b o hc e n => ?_)
    (fun b o _ e => ⟨o, e⟩) (fun b xs e => by rw [upd_ne (nD b _ e)]; exact e) (fun b o u e => by rw [upd_ne (nD b _ e)]; exact e) (fun b ps e => ⟨#[], by rw [upd_ne (nD b _ e), e]; simp⟩) (fun m hm => hm) (fun b u e => ?_) I.bare
  · have e : b = D := by simpa using hb
    subst e
    exact ⟨hex, hL, hce, hpi⟩
  · rw [upd_ne (fun z => hc (by simp [z]))]
    exact n
  · by_cases hb : b = D
    · subst hb
      rw [upd_same] at e
      cases e
      exact new
    · rw [upd_ne hb] at e
      exact (I.hok b u e).stay (fun c v _ q => q) (fun c q => by rw [upd_ne (nD c _ q)]; exact q) fun c xs q => by rw [upd_ne (nD c _ q)]; exact q
end

noncomputable def closL (env : Env) : List (Str × NameKind) → List (Str × Addr) → List (Str × Addr)
  | [], cs => cs
  | (n, k) :: r, cs => closL env r (if k = .free then (match env.cells.lookup n with | some c => (n, c) :: cs | none => cs) else cs)
theorem forIn_pure {α β : Type} (f : α → β → Sem (ForInStep β)) (g : α → β → β) : ∀ (l : List α) (b : β), (∀ y ∈ l, ∀ b, f y b = pure (.yield (g y b))) → (forIn l b f : Sem β) = pure (l.foldl (fun b y => g y b) b)
  | [], b, _ => rfl
  | a :: r, b, h => by
    rw [List.forIn_cons, h a List.mem_cons_self b]
    exact forIn_pure f g r (g a b) fun y hy => h y (List.mem_cons_of_mem _ hy)
noncomputable def closG (env : Env) (y : Str × NameKind) (cs : List (Str × Addr)) : List (Str × Addr) := if y.2 = .free then (match env.cells.lookup y.1 with | some c => (y.1, c) :: cs | none => cs) else cs
theorem closL_fold (env : Env) : ∀ (l : List (Str × NameKind)) (cs : List (Str × Addr)), l.foldl (fun b y => closG env y b) cs = closL env l cs
  | [], cs => rfl
  | (n, k) :: r, cs => by
    rw [List.foldl_cons, closL_fold env r]
    rfl
theorem closureFor_L {scope : Scope} {env : Env} (h : ∀ y ∈ scope.names, y.2 = .free → ∃ c, env.cells.lookup y.1 = some c) : closureFor scope env = pure (closL env scope.names []) := by
  simp only [closureFor]
  rw [forIn_pure _ (closG env) scope.names [] (fun y hy b => ?_)]
  · rw [closL_fold]
    rfl
  · obtain ⟨n, k⟩ := y
    by_cases hk : k = .free
    · obtain ⟨c, hc⟩ := h (n, k) hy hk
      subst hk
      have e : cellOf env n = pure c := by unfold cellOf; rw [hc]
      have e2 : closG env (n, NameKind.free) b = (n, c) :: b := by unfold closG; rw [if_pos rfl, hc]
      simp only [e, e2]
      rfl
    · have e : (k == NameKind.free) = false := by simpa using hk
      have e2 : closG env (n, k) b = b := by unfold closG; rw [if_neg hk]
      simp only [e, e2, Bool.false_eq_true, if_false]
theorem closL_sub {env : Env} : ∀ (l : List (Str × NameKind)) (cs : List (Str × Addr)), (∀ x c, cs.lookup x = some c → env.cells.lookup x = some c) → ∀ x c, (closL env l cs).lookup x = some c → env.cells.lookup x = some c
  | [], cs, h, x, c, e => h x c e
  | (n, k) :: r, cs, h, x, c, e => by
    unfold closL at e
    refine closL_sub r _ (fun x c e => ?_) x c e
    by_cases hk : k = .free
    · rw [if_pos hk] at e
      cases hc : env.cells.lookup n with
      | none => rw [hc] at e; exact h x c e
      | some d =>
        rw [hc] at e
        by_cases hx : x = n
        · subst hx
          simp at e
          rw [← e]; exact hc
        · have : (x == n) = false := by simpa using hx
          rw [List.lookup_cons, this] at e
          exact h x c e
    · rw [if_neg hk] at e
      exact h x c e
theorem closL_has {env : Env} : ∀ (l : List (Str × NameKind)) (cs : List (Str × Addr)) (x : Str), (∀ y ∈ l, y.2 = .free → ∃ c, env.cells.lookup y.1 = some c) → ((∃ c, cs.lookup x = some c) ∨ (x, NameKind.free) ∈ l) → ∃ c, (closL env l cs).lookup x = some c
  | [], cs, x, _, h => by
    rcases h with h | h
    · exact h
    · simp at h
  | (n, k) :: r, cs, x, hc, h => by
    unfold closL
    refine closL_has r _ x (fun y hy => hc y (List.mem_cons_of_mem _ hy)) ?_
    rcases h with ⟨c, h⟩ | h
    · refine .inl ?_
      split
      · split
        · rename_i d _
          by_cases hx : x = n
          · subst hx; exact ⟨d, by simp⟩
          · have : (x == n) = false := by simpa using hx
            exact ⟨c, by rw [List.lookup_cons, this]; exact h⟩
        · exact ⟨c, h⟩
      · exact ⟨c, h⟩
    · rcases List.mem_cons.mp h with h | h
      · cases h
        obtain ⟨d, hd⟩ := hc (n, NameKind.free) List.mem_cons_self rfl
        refine .inl ⟨d, ?_⟩
        rw [if_pos rfl]
        have hd' : env.cells.lookup n = some d := hd
        rw [hd']
        simp
      · exact .inr h
theorem relabel_cf {env : Env} : ∀ {names : List (Str × NameKind)} {x : Str}, (∀ y ∈ names, y.2 ≠ .cell) → 
    ((names.map fun (n, k) => if (k == NameKind.free && env.scope.kind == .function && env.kindOf n == some .cell) then (n, NameKind.cell) else (n, k)).lookup x = some .cell ∨
     (names.map fun (n, k) => if (k == NameKind.free && env.scope.kind == .function && env.kindOf n == some .cell) then (n, NameKind.cell) else (n, k)).lookup x = some .free) → names.lookup x = some .free
  | [], x, _, h => by simp at h
  | (n, k) :: r, x, hc, h => by
    have ih := @relabel_cf env r x fun y hy => hc y (List.mem_cons_of_mem _ hy)
    have hk := hc (n, k) List.mem_cons_self
    rw [List.map_cons] at h
    by_cases hx : x = n
    · subst hx
      rw [List.lookup_cons, beq_self_eq_true]
      simp only
      by_cases hcond : (k == NameKind.free && env.scope.kind == .function && env.kindOf x == some .cell) = true
      · have : (k == NameKind.free) = true := by
          rw [Bool.and_eq_true, Bool.and_eq_true] at hcond
          exact hcond.1.1
        simpa using this
      · simp only [if_neg hcond, List.lookup_cons, beq_self_eq_true] at h
        rcases h with h | h
        · exact absurd (Option.some.inj h) hk
        · exact h
    · have e : (x == n) = false := by simpa using hx
      rw [List.lookup_cons, e]
      refine ih ?_
      by_cases hcond : (k == NameKind.free && env.scope.kind == .function && env.kindOf n == some .cell) = true
      · simp only [if_pos hcond, List.lookup_cons, e] at h
        exact h
      · simp only [if_neg hcond, List.lookup_cons, e] at h
        exact h
theorem relabel_free {env : Env} : ∀ {names : List (Str × NameKind)} {x : Str}, names.lookup x = some .free →
    ((names.map fun (n, k) => if (k == NameKind.free && env.scope.kind == .function && env.kindOf n == some .cell) then (n, NameKind.cell) else (n, k)).lookup x = some .cell ∨
     (names.map fun (n, k) => if (k == NameKind.free && env.scope.kind == .function && env.kindOf n == some .cell) then (n, NameKind.cell) else (n, k)).lookup x = some .free)
  | [], x, h => by simp at h
  | (n, k) :: r, x, h => by
    have ih := @relabel_free env r x
    rw [List.map_cons]
    by_cases hx : x = n
    · subst hx
      rw [List.lookup_cons, beq_self_eq_true] at h
      simp only at h
      cases h
      by_cases hcond : (NameKind.free == NameKind.free && env.scope.kind == .function && env.kindOf x == some .cell) = true
      · refine .inl ?_
        show List.lookup x ((if (NameKind.free == NameKind.free && env.scope.kind == .function && env.kindOf x == some .cell) = true then (x, NameKind.cell) else (x, NameKind.free)) :: _) = _
        rw [if_pos hcond, List.lookup_cons, beq_self_eq_true]
      · refine .inr ?_
        show List.lookup x ((if (NameKind.free == NameKind.free && env.scope.kind == .function && env.kindOf x == some .cell) = true then (x, NameKind.cell) else (x, NameKind.free)) :: _) = _
        rw [if_neg hcond, List.lookup_cons, beq_self_eq_true]
    · have e : (x == n) = false := by simpa using hx
      rw [List.lookup_cons, e] at h
      have := ih h
      by_cases hcond : (k == NameKind.free && env.scope.kind == .function && env.kindOf n == some .cell) = true
      · simp only [if_pos hcond, List.lookup_cons, e]
        exact this
      · simp only [if_neg hcond, List.lookup_cons, e]
        exact this

noncomputable def blk (X : Cx) (N : List Str) (scope : Scope) (cl : List (Str × Addr)) (s : Shared) (H : Hp) (fp : List Addr) (pins : List (Addr × Obj)) (C : Addr) : Cx where
  prog := X.prog
  w := X.w
  K := X.K
  mg := X.mg
  base := X.base
  A := X.A
  N := N
  s₀ := s
  H₀ := H
  env := compEnvC scope cl C X.env
  outer := X.stack
  stack := X.stack
  ex := fp
  fn := fun _ => false
  calm := X.calm
  pn := X.pn ++ pins
  xe := fun _ _ => False
noncomputable def srcOk (N : List Str) (src : List (Option Nat)) (scope : Scope) (oN : List Str) : Bool :=
  (N.zip src).all fun p => match p.2 with | none => true | some j => (oN[j]? == some p.1) && (scope.names.lookup p.1 == some .free)
structure BlkOk (N : List Str) (src : List (Option Nat)) (scope osc : Scope) (oN : List Str) : Prop where
  kind : scope.kind = .function
  nocell : ∀ y ∈ scope.names, y.2 ≠ .cell
  names : ∀ y ∈ scope.names, y.2 = .local → scope.names.lookup y.1 = some .local
  fr : ∀ y ∈ scope.names, y.2 = .free → osc.names.lookup y.1 = some .cell ∨ osc.names.lookup y.1 = some .free
  len : src.length = N.length
  srcs : srcOk N src scope oN = true
noncomputable def sub (src : List (Option Nat)) (σ : St) : St := src.map fun o => match o with | none => none | some j => (σ[j]?).getD none
theorem srcOk_at {N : List Str} {src : List (Option Nat)} {scope : Scope} {oN : List Str} (h : srcOk N src scope oN = true) {i j : Nat} {x : Str} (h1 : N[i]? = some x) (h2 : src[i]? = some (some j)) : oN[j]? = some x ∧ scope.names.lookup x = some .free := by
  have hm : (x, some j) ∈ N.zip src := by
    refine List.mem_of_getElem? (i := i) ?_
    rw [List.getElem?_zip_eq_some]
    exact ⟨h1, h2⟩
  have := List.all_eq_true.mp h _ hm
  simp only [Bool.and_eq_true, beq_iff_eq] at this
  exact this
theorem sub_at {src : List (Option Nat)} {σ : St} {i : Nat} {v : V} (h : (sub src σ)[i]? = some (some v)) : ∃ j, src[i]? = some (some j) ∧ σ[j]? = some (some v) := by
  unfold sub at h
  rw [List.getElem?_map] at h
  cases e : src[i]? with
  | none => rw [e] at h; simp at h
  | some o =>
    rw [e] at h
    cases o with
    | none => simp at h
    | some j =>
      refine ⟨j, rfl, ?_⟩
      cases e2 : σ[j]? with
      | none => simp [e2] at h
      | some o2 =>
        simp [e2] at h
        rw [h]
structure PTs (X : Cx) (ifs : List Expr) (t : TT) : Prop where
  run :
    ∀ (pins : List (Addr × Obj)) (s : Shared) (σ : St) (H : Hp) (Q : Bool → Hp → Prop), Inv X pins σ H s → t σ H Q →
      wpAny (model X.prog X.w) X.A (forIn ifs true fun c r => if r = true then do let ok ← isTrue c X.env (eval c X.env); pure (ForInStep.yield ok) else pure (ForInStep.yield r)) (TP X pins σ Q) X.xe s
instance {X : Cx} {ifs : List Expr} {t : TT} : CoeFun (PTs X ifs t) (fun _ =>
  ∀ (pins : List (Addr × Obj)) (s : Shared) (σ : St) (H : Hp) (Q : Bool → Hp → Prop), Inv X pins σ H s → t σ H Q →
    wpAny (model X.prog X.w) X.A (forIn ifs true fun c r => if r = true then do let ok ← isTrue c X.env (eval c X.env); pure (ForInStep.yield ok) else pure (ForInStep.yield r)) (TP X pins σ Q) X.xe s) := ⟨fun h => h.run⟩
theorem pts_nil {X : Cx} : PTs X [] (fun _ H Q => Q true H) := ⟨fun _ _ _ H _ I h => wpAny_tests_nil ⟨H, I, h⟩⟩
section
variable {X : Cx} {pins : List (Addr × Obj)} {σ : St} {H : Hp} {s : Shared}
theorem Inv.clos {N : List Str} {src : List (Option Nat)} {scope : Scope} (B : BlkOk N src scope X.env.scope X.N) (I : Inv X pins σ H s) : ∀ y ∈ scope.names, y.2 = .free → ∃ c, X.env.cells.lookup y.1 = some c :=
  fun y hy hf => I.ok.has y.1 (B.fr y hy hf)
theorem Inv.block {N : List Str} {src : List (Option Nat)} {scope : Scope} {fp : List Addr} {s1 : Shared} {C : Addr} {m : Str → Option Value} (B : BlkOk N src scope X.env.scope X.N) (I : Inv X pins σ H s)
    (hf : ∀ b ∈ fp, FpOk X pins H b) (hfo : ∀ b ∈ fp, b < s.heap.objs.size) (hC : s.heap.objs.size ≤ C) (ho : s1.os = s.os) (hb : AllBare s1.gens) (hk : ∀ b o, s.heap.get? b = some o → s1.heap.get? b = some o) (hn : s1.heap.Ns C m) :
    Inv (blk X N scope (closL X.env scope.names []) s H fp pins C) [] (sub src σ) H s1 := by
  have hclos := I.clos B
  have cl_sub : ∀ x c, (closL X.env scope.names []).lookup x = some c → X.env.cells.lookup x = some c := closL_sub _ _ (fun x c e => by simp at e)
  have fsub : ∀ b ∈ frs X.stack, b < s.heap.objs.size := fun b hb => by
    obtain ⟨_, o, ho, _⟩ := I.stack.mem hb
    exact Heap.lt_size ho
  refine ⟨⟨I.ok.mod, B.kind, I.ok.glob, I.ok.blt, hC, fun x y c e1 e2 => I.ok.inj x y c (cl_sub x c e1) (cl_sub y c e2), fun x hx => ?_, fun x c hx => absurd hx Bool.false_ne_true, I.ok.hd, I.ok.frames, .inl rfl, fun b hb => ⟨?_, fun x c e => ?_⟩, fun b o e => ?_, Nat.le_trans I.ok.bsz I.sz, fun b o e hb => ?_, fun b hb hz => ?_, I.stack, I.stkFree⟩,
    ho, hb, Un.kept hk, ⟨m, hn, fun i x v e1 e2 e3 => ?_⟩, fun x c e => ?_, ?_, fun x c e => I.freeC x c (cl_sub x c e), fun p hp => ?_, I.hok.kept hk, ?_⟩
  · have hx' := relabel_cf (env := X.env) B.nocell hx
    exact closL_has _ _ x hclos (.inr (PySem.mem_of_lookup hx'))
  · exact Nat.ne_of_lt (Nat.lt_of_lt_of_le (hfo b hb) hC)
  · exact (hf b hb).2.2.2.2.1 x c (cl_sub x c e)
  · exact I.bs b o e
  · rcases (hf b hb).2.2.2.1 with z | z
    · exact I.ok.noex b o e z
    · exact absurd (Nat.lt_of_lt_of_le (Heap.lt_size e) (Nat.le_trans I.ok.bsz z)) (Nat.lt_irrefl _)
  · rcases List.mem_cons.mp (I.stkSub b hz) with e | z
    · exact (hf b hb).2.1 e
    · exact (hf b hb).2.2.1 z
  · obtain ⟨j, ej, ev⟩ := sub_at e2
    obtain ⟨oj, fj⟩ := srcOk_at B.srcs e1 ej
    have hvis := B.fr _ (PySem.mem_of_lookup fj) rfl
    obtain ⟨m0, hn0, hl0⟩ := id I.loc
    obtain ⟨u, ru, lk⟩ := hl0 j x v oj ev (.inr hvis)
    refine ⟨u, ru, .inr ⟨relabel_free fj, ?_⟩⟩
    rcases lk with ⟨k, _⟩ | ⟨k, c, hc, hcell⟩
    · have k' : X.env.scope.names.lookup x = some .local := k
      rcases hvis with z | z <;> (rw [k'] at z; cases z)
    · obtain ⟨c', hc'⟩ := closL_has (env := X.env) scope.names [] x hclos (.inr (PySem.mem_of_lookup fj))
      have e := cl_sub x c' hc'
      rw [hc] at e
      cases e
      obtain ⟨o, ho, hd⟩ := hcell
      exact ⟨c, hc', o, hk _ _ ho, hd⟩
  · obtain ⟨v, o, ho, hd⟩ := I.cell x c (cl_sub x c e)
    exact ⟨v, o, hk _ _ ho, hd⟩
  · exact I.hok.fresh hC
  · have hp' : p ∈ X.pn ++ pins := by
      rcases List.mem_append.mp hp with z | z
      · exact z
      · simp at z
    obtain ⟨q1, q2, q3, q4, q5⟩ := I.pin p hp'
    refine ⟨hk _ _ q1, q2, Nat.ne_of_lt (Nat.lt_of_lt_of_le (Heap.lt_size q1) hC), fun z => ?_, q5⟩
    rcases List.mem_cons.mp (I.stkSub _ z) with e | z
    · exact q3 e
    · exact q4 z
  · show (sub src σ).length = N.length
    unfold sub
    rw [List.length_map]
    exact B.len
end

section
variable {prog : Program} {w : World} {A : Around} {R : Result → Shared → Prop} {s : Shared}
theorem compLoop_go {elt target iter : Expr} {ifs : List Expr} {scope : Scope} {pos : Pos} {it acc : Value} {env : Env} (I : Nat → Shared → Prop)
    (turn : ∀ n s, I n s → wpAny (model prog w) A (pyNext it) (fun r s₁ => match r with
      | none => R (.ok .next) s₁
      | some v => wpAny (model prog w) A (letOwnedTupleGo target it v) (fun _ s₁' => wpAny (model prog w) A (assign target env v) (fun _ s₂ =>
          wpAny (model prog w) A (forIn ifs true fun c r => if r = true then do let ok ← isTrue c env (eval c env); pure (ForInStep.yield ok) else pure (ForInStep.yield r)) (fun ok s₃ =>
            if ok = true then wpAny (model prog w) A (eval elt env) (fun x s₄ =>
              wpAny (model prog w) A (call (.builtin "list.append") [acc, x]) (fun _ s₅ => ∃ m, m < n ∧ I m s₅) (fun _ _ => False) s₄) (fun _ _ => False) s₃
            else ∃ m, m < n ∧ I m s₃) (fun _ _ => False) s₂) (fun _ _ => False) s₁') (fun _ _ => False) s₁) (fun _ _ => False) s)
    (n : Nat) (h : I n s) :
    codeAny (model prog w) A (.compLoop (.ListComp elt [⟨target, iter, ifs, 0⟩] scope pos) 0 it acc env) R s := by
  have nv : ∀ {α : Type} {t : Sem α} {Q : α → Shared → Prop} {E : Value → Shared → Prop} {s : Shared}, wpAny (model prog w) A t Q (fun _ _ => False) s → wpAny (model prog w) A t Q E s := fun h => wpAny_mono h (fun _ _ x => x) fun _ _ x => x.elim
  refine codeAny_loop rfl I (fun n s hI => ?_) n h
  show wpAny _ A ((compTurn (.ListComp elt [⟨target, iter, ifs, 0⟩] scope pos) 0 it acc env).onRaise (fun x => do noteFrame x env; theTreesLotGoes x)) _ _ s
  refine wpAny_noted ?_
  rw [compTurn_list]
  refine wpAny_bind (wpAny_standAt (wpAny_bind (nv (thn (turn n s hI) (fun r s₁ h₁ => ?_)))))
  cases r with
  | none => exact wpAny_pure h₁
  | some v =>
    refine wpAny_bind (wpAny_mono h₁ (fun _ s₁' h₁' => ?_) fun _ _ x => x.elim)
    refine wpAny_bind (wpAny_mono h₁' (fun _ s₂ h₂ => wpAny_bind (wpAny_mono h₂ (fun ok s₃ h₃ => ?_) fun _ _ h' => h'.elim)) fun _ _ h' => h'.elim)
    cases ok with
    | false => exact wpAny_pure ⟨rfl, h₃⟩
    | true =>
      exact wpAny_bind (wpAny_bind (wpAny_mono h₃ (fun x s₄ h₄ => wpAny_bind (wpAny_mono h₄ (fun _ s₅ h₅ => wpAny_pure (wpAny_pure ⟨rfl, h₅⟩)) fun _ _ h' => h'.elim)) fun _ _ h' => h'.elim))
end

inductive I_CompW (J : It) (g : TG) (tt : TT) (te : TE) (σ₀ : St) (H₀ : Hp) (Q : VK) : Prop
  | mk (W : Nat → Nat → List V → St → Hp → Prop) (q0 : (∃ m, W 0 m [] σ₀ H₀)) (q1 : ∀ i m ys σ H, W i m ys σ H → ys.length ≤ sizeLine ∧
    ((J.stop i H ∧ ∀ D, H D = none → Q (.ref D) (upd H D (.lst ys))) ∨
     (J.go i H ∧ ∃ N : List V → St → Hp → Prop, (∀ zs σ' H', N zs σ' H' → ∃ m', m' < m ∧ W (i + 1) m' zs σ' H') ∧
       ∀ x H', J.yld i H x H' → g x σ H' fun σ2 H2 => tt σ2 H2 fun b H3 => if b = true then te σ2 H3 fun v H4 => N (ys ++ [v]) σ2 H4 else N ys σ2 H3))) : I_CompW J g tt te σ₀ H₀ Q
noncomputable def CompW (J : It) (g : TG) (tt : TT) (te : TE) (σ₀ : St) (H₀ : Hp) (Q : VK) : Prop := I_CompW J g tt te σ₀ H₀ Q
section
variable {X : Cx} {pins : List (Addr × Obj)} {σ : St}
theorem comp_core {tg iter elt : Expr} {ifs : List Expr} {scope : Scope} {pos : Pos} {N : List Str} {src : List (Option Nat)} {g : TG} {tt : TT} {te : TE} {J : It} {fp : List Addr} {it : Addr} {tn : Nat → Heap → Prop} {H2 : Hp} {s2 : Shared} {Q : VK} {E : Value → Shared → Prop}
    {RR : Value → Addr → Result → Shared → Prop} (B : BlkOk N src scope X.env.scope X.N) (hc : X.calm = true)
    (hb : ∀ cl s H fp pins C, PG (blk X N scope cl s H fp pins C) tg g ∧ PTs (blk X N scope cl s H fp pins C) ifs tt ∧ PE (blk X N scope cl s H fp pins C) elt te)
    (I2 : Inv X pins σ H2 s2) (T : Turn X.prog X.w X.K tg J fp it tn) (st2 : tn 0 s2.heap) (f2 : ∀ b ∈ fp, FpOk X pins H2 b) (cw : CompW J g tt te (sub src σ) H2 Q)
    (hRR : ∀ D C H' m s', Inv X pins σ H' s' → s'.heap.Ns C m → FpOk X pins H' C → D ≠ C → Q (.ref D) H' → RR (.ref D) C (.ok .next) s') :
    wpAny (model X.prog X.w) X.A (newList []) (fun acc s₃ => wpAny (model X.prog X.w) X.A (newFunctionEnv scope X.env.globals (closL X.env scope.names []) [] X.env.qual none .none (some X.env)) (fun cenv s₄ =>
      codeAny (model X.prog X.w) X.A (.compStart (.ListComp elt [⟨tg, iter, ifs, 0⟩] scope pos) 0 (.ref it) acc { cenv with scope := relabel scope X.env }) (RR acc cenv.locals) s₄) E s₃) E s2 := by
  refine wpAny_newObj_type (wpAny_newFunctionEnv B.nocell (by intro y hy; simp at hy) (fun h₁ hns₁ hsb₁ => ?_) B.kind)
  dsimp only at hns₁ hsb₁ ⊢
  generalize hH2 : s2.heap.push { cls := .type "list", dict := none, data := .seq ([] : List Value).toArray } = HH at hns₁ hsb₁ ⊢
  have hCs : HH.objs.size = s2.heap.objs.size + 1 := by rw [← hH2, Heap.size_push]
  have hDC : s2.heap.objs.size ≠ HH.objs.size := by rw [hCs]; exact Nat.ne_of_lt (Nat.lt_succ_self _)
  have hCle : s2.heap.objs.size ≤ HH.objs.size := by rw [hCs]; exact Nat.le_succ _
  have fpo : ∀ b ∈ fp, b < s2.heap.objs.size := fun b hb => by
    obtain ⟨o, e, _⟩ := T.obj _ _ st2 b hb
    exact Heap.lt_size e
  have old : ∀ b o, s2.heap.get? b = some o → h₁.get? b = some o := fun b o e =>
    hsb₁.extBut b o (by rw [hCs]; exact Nat.ne_of_lt (Nat.lt_succ_of_lt (Heap.lt_size e))) (Heap.get?_push_of_some _ (hH2 ▸ Heap.get?_push_of_some _ e))
  have hacc : h₁.PlainList s2.heap.objs.size #[] := ⟨_, hsb₁.extBut _ _ hDC (Heap.get?_push_of_some _ (hH2 ▸ Heap.get?_push_size _ rfl))⟩
  have st1 : tn 0 h₁ := T.keep _ _ _ st2 fun b _ o e => old b o e
  obtain ⟨W, ⟨m0, w0⟩, turn⟩ := cw
  have fsub : ∀ b ∈ frs X.stack, b < s2.heap.objs.size := fun b hb => by
    obtain ⟨_, o, ho, _⟩ := I2.stack.mem hb
    exact Heap.lt_size ho
  -- the block
  generalize hXb : blk X N scope (closL X.env scope.names []) s2 H2 fp pins HH.objs.size = Xb
  have hbl := hb (closL X.env scope.names []) s2 H2 fp pins HH.objs.size
  rw [hXb] at hbl
  have eP : Xb.prog = X.prog := by rw [← hXb]; rfl
  have eW : Xb.w = X.w := by rw [← hXb]; rfl
  have eK : Xb.K = X.K := by rw [← hXb]; rfl
  have eA : Xb.A = X.A := by rw [← hXb]; rfl
  have eE : Xb.env = compEnvC scope (closL X.env scope.names []) HH.objs.size X.env := by rw [← hXb]; rfl
  have eL : Xb.env.locals = HH.objs.size := by rw [eE]; rfl
  have eF : Xb.fs = frs X.stack := by rw [← hXb]; rfl
  have eX : Xb.ex = fp := by rw [← hXb]; rfl
  have eS : Xb.s₀ = s2 := by rw [← hXb]; rfl
  have eH : Xb.H₀ = H2 := by rw [← hXb]; rfl
  have eC : Xb.calm = true := by rw [← hXb]; exact hc
  have ePn : Xb.pn = X.pn ++ pins := by rw [← hXb]; rfl
  have eXe : Xb.xe = fun _ _ => False := by rw [← hXb]; rfl
  have cl_sub : ∀ x c, Xb.env.cells.lookup x = some c → X.env.cells.lookup x = some c := fun x c e => by
    rw [eE] at e
    exact closL_sub scope.names [] (fun x c e => by simp at e) x c e
  have cells_lt : ∀ x c, Xb.env.cells.lookup x = some c → c < s2.heap.objs.size := fun x c e => by
    obtain ⟨v, o, ho, _⟩ := I2.cell x c (cl_sub x c e)
    exact Heap.lt_size ho
  have pins_lt : ∀ p ∈ X.pn ++ pins, p.1 < s2.heap.objs.size := fun p hp => Heap.lt_size (I2.pin p hp).1
  generalize hD : s2.heap.objs.size = D at *
  generalize hCC : HH.objs.size = C at *
  have loop : ∀ s₃ : Shared, s₃ = { s2 with heap := h₁, toks := s2.toks + ([] : List (Str × Value)).length } →
      codeAny (model X.prog X.w) X.A (.compLoop (.ListComp elt [⟨tg, iter, ifs, 0⟩] scope pos) 0 (.ref it) (.ref D) (compEnvC scope (closL X.env scope.names []) C X.env)) (RR (.ref D) C) s₃ := by
    rintro s₃ rfl
    have I3 : Inv Xb [] (sub src σ) H2 { s2 with heap := h₁, toks := s2.toks + ([] : List (Str × Value)).length } := by
      rw [← hXb]
      exact I2.block B f2 (by rw [hD]; exact fpo) (by rw [hD]; exact hCle) rfl I2.bare old hns₁
    have nD2 : H2 D = none := I2.hok.fresh (Nat.le_of_eq hD)
    -- the gathering list, pinned
    have dfs : D ∉ Xb.fs := fun z => by rw [eF] at z; exact absurd (fsub D z) (Nat.lt_irrefl _)
    have dpin : ∀ {σ' : St} {H' : Hp} {s' : Shared} {pl : List (Addr × Obj)} {its : List Value} {n : Nat}, Inv Xb pl σ' H' s' → H' D = none → s'.heap.get? D = some { cls := .type "list", data := .seq its.toArray n } →
        Inv Xb ((D, { cls := .type "list", data := .seq its.toArray n }) :: pl) σ' H' s' := fun {σ' H' s' pl its n} I' hn hg =>
      I'.pins_of fun p hp => by
        rcases List.mem_cons.mp hp with e | hp
        · subst e
          exact ⟨hg, hn, by rw [eL]; exact hDC, dfs, fun v z => by cases z⟩
        · exact I'.pin p (List.mem_append_right _ hp)
    obtain ⟨n0, hg0⟩ := hacc
    have I3' := dpin (its := []) I3 nD2 hg0
    -- what is true of the iterator's records in the block
    have fpb : ∀ {H' : Hp} {pl : List (Addr × Obj)}, (∀ p ∈ pl, p.1 = D) → (∀ b ∈ fp, H' b = none) → ∀ b ∈ fp, FpOk Xb pl H' b := fun {H' pl} hpl hn b hb => by
      refine ⟨hn b hb, by rw [eL]; exact Nat.ne_of_lt (Nat.lt_of_lt_of_le (fpo b hb) hCle), fun z => ?_, .inl (by rw [eX]; exact hb), fun x c e => (f2 b hb).2.2.2.2.1 x c (cl_sub x c e), fun p hp => ?_⟩
      · rw [eF] at z
        rcases List.mem_cons.mp (I2.stkSub b z) with e | z
        · exact (f2 b hb).2.1 e
        · exact (f2 b hb).2.2.1 z
      · rw [ePn] at hp
        rcases List.mem_append.mp hp with z | z
        · exact (f2 b hb).2.2.2.2.2 p z
        · rw [hpl p z]; exact Nat.ne_of_gt (fpo b hb)
    refine compLoop_go (fun n s' => ∃ i ys its nn σ' H', Inv Xb [(D, { cls := .type "list", data := .seq its.toArray nn })] σ' H' s' ∧ tn i s'.heap ∧ (∀ b ∈ fp, H' b = none) ∧ Vals ys its ∧ W i n ys σ' H') ?_ m0
      ⟨0, [], [], n0, sub src σ, H2, I3', st1, fun b hb => (f2 b hb).1, .nil, w0⟩
    rintro n s4 ⟨i, ys, its, nn, σ4, H4, I4, st4, fr4, vs4, w4⟩
    obtain ⟨hsz, hcase⟩ := turn i n ys σ4 H4 w4
    have one : ∀ {o : Obj}, ∀ p ∈ [(D, o)], p.1 = D := fun {o} p hp => by
      have := List.mem_singleton.mp hp
      rw [this]
    rcases hcase with ⟨stop, qn⟩ | ⟨go, Nx, hN, step⟩
    · have hdone := T.done Xb eP eW eK eC i _ s4 σ4 H4 (fun _ _ => False) I4 (fpb one fr4) st4 stop
      rw [eA] at hdone
      refine thn hdone fun r s5 ⟨hr, I5⟩ => ?_
      subst hr
      -- back in the frame
      have pd := I5.pin _ (List.mem_append_right _ List.mem_cons_self)
      have hb5 : Un (frs X.stack) fp H2 H4 s2.heap s5.heap := by
        have := I5.base
        rw [eF, eX, eS, eH] at this
        exact this
      have hok5 : HOk X.prog X.w H4 s5.heap := by
        have := I5.hok
        rw [eP, eW] at this
        exact this
      have os5 : s5.os = s2.os := by
        have := I5.os
        rw [eS] at this
        exact this
      have J5 : Inv X pins σ H4 s5 := I2.call' os5 hb5 hok5 I5.bare fun b hb => ⟨(f2 b hb).2.2.2.1, (f2 b hb).2.1, (f2 b hb).2.2.2.2.1, (f2 b hb).2.2.2.2.2⟩
      have fD : FpOk X pins H4 D := I2.fpOk (Nat.le_of_eq hD) pd.2.1
      have J6 : Inv X pins σ (upd H4 D (.lst ys)) s5 := J5.track fD ⟨hsz, its, nn, vs4, pd.1⟩
      obtain ⟨mm, nsC, _⟩ := I5.loc
      rw [eL] at nsC
      have hC4 : H4 C = none := by
        have := I5.free
        rw [eL] at this
        exact this
      have fC : FpOk X pins (upd H4 D (.lst ys)) C := I2.fpOk (by rw [hD]; exact hCle) (by rw [upd_ne (Ne.symm hDC)]; exact hC4)
      exact hRR D C _ mm s5 J6 nsC fC hDC (qn D pd.2.1)
    · have hitem := T.item Xb eP eW eK eC i _ s4 σ4 H4 (fun _ _ => False) I4 (fpb one fr4) st4 go
      rw [eA] at hitem
      refine thn hitem fun r s5 ⟨u, hr, h5⟩ => ?_
      subst hr
      refine thn h5 fun _ s6 ⟨x, H6, I6, r6, y6, st6, fr6⟩ => ?_
      have I6' := I6.pinned (fpb one fr6) (T.obj _ _ st6)
      obtain ⟨hg, ht, he⟩ := hbl
      have e1 := hg _ s6 σ4 H6 x u _ I6' r6 (step x H6 y6)
      rw [eP, eW, eA, eE, eXe] at e1
      refine thn e1 fun _ s7 ⟨σ7, H7, I7, q7⟩ => ?_
      have e2 := ht _ s7 σ7 H7 _ I7 q7
      rw [eP, eW, eA, eE, eXe] at e2
      refine thn e2 fun ok s8 ⟨H8, I8, q8⟩ => ?_
      have fin : ∀ {σ' : St} {H' : Hp} {s' : Shared} {its' : List Value} {nn' : Nat} {zs : List V}, Inv Xb ([(D, { cls := .type "list", data := .seq its'.toArray nn' })] ++ pinsAt fp s6.heap) σ' H' s' → Vals zs its' → Nx zs σ' H' →
          ∃ m, m < n ∧ ∃ i ys its nn σ' H', Inv Xb [(D, { cls := .type "list", data := .seq its.toArray nn })] σ' H' s' ∧ tn i s'.heap ∧ (∀ b ∈ fp, H' b = none) ∧ Vals ys its ∧ W i m ys σ' H' := fun {σ' H' s' its' nn' zs} I' vs' n' => by
        obtain ⟨m', hm, w'⟩ := hN zs σ' H' n'
        refine ⟨m', hm, i + 1, zs, its', nn', σ', H', I'.unpinned, T.keep _ _ _ st6 fun b hb o e => (I'.pin (b, o) (List.mem_append_right _ (List.mem_append_right _ (mem_pinsAt hb e)))).1, fun b hb => ?_, vs', w'⟩
        obtain ⟨o, e, d⟩ := T.obj _ _ st6 b hb
        exact (I'.pin (b, o) (List.mem_append_right _ (List.mem_append_right _ (mem_pinsAt hb e)))).2.1
      cases ok with
      | false =>
        simp only [Bool.false_eq_true, if_false] at q8 ⊢
        exact fin I8 vs4 q8
      | true =>
        simp only [if_true] at q8 ⊢
        have e3 := he _ s8 σ7 H8 _ I8 q8
        rw [eP, eW, eA, eE, eXe] at e3
        refine thn e3 fun v s9 ⟨y, H9, I9, r9, q9⟩ => ?_
        have pd := I9.pin _ (List.mem_append_right _ (List.mem_append_left _ List.mem_cons_self))
        have hlen := vs4.length
        refine wpAny_list_append_plain (hsz := by simp only [List.size_toArray]; first | lia | omega) (⟨nn, pd.1⟩ : s9.heap.PlainList D its.toArray) fun h' ⟨nn', hg'⟩ hs' => ?_
        have I10 : Inv Xb (pinsAt fp s6.heap) σ7 H9 s9 := I9.pins_of fun p hp => I9.pin p (List.mem_append_right _ (List.mem_append_right _ hp))
        have I11 : Inv Xb (pinsAt fp s6.heap) σ7 H9 { s9 with heap := h' } := I10.turned (t' := s9.toks) (it := D) (fun b o hb e => (hs'.2 b hb).trans e) pd.2.1 (by rw [eL]; exact hDC) (.inr (by rw [eS]; exact Nat.le_of_eq hD))
          (fun x c e => Nat.ne_of_lt (cells_lt x c e)) fun p hp => by
            rw [ePn] at hp
            rcases List.mem_append.mp hp with z | z
            · exact Nat.ne_of_lt (pins_lt p z)
            · exact Nat.ne_of_lt (fpo _ (of_pinsAt z).1)
        have hg'' : h'.get? D = some { cls := .type "list", data := .seq (its ++ [v]).toArray nn' } := by
          rw [hg']
          simp
        exact fin (dpin (s' := { s9 with heap := h' }) I11 pd.2.1 hg'') (vs4.append (.cons r9 .nil)) q9
  exact codeAny_compStart_list (loop _ rfl) (T.self X.A 0 _ _ _ st1 (loop _ rfl))
end

noncomputable def tComp (src : List (Option Nat)) (wi : TI) (g : TG) (tt : TT) (te : TE) : TE := fun σ H Q => wi σ H fun J H1 => CompW J g tt te (sub src σ) H1 Q
section
variable {X : Cx}
theorem pe_comp {tg iter elt : Expr} {ifs : List Expr} {scope osc : Scope} {pos : Pos} {N oN : List Str} {src : List (Option Nat)} {wi : TI} {g : TG} {tt : TT} {te : TE} (B : BlkOk N src scope osc oN) (hi : PI X tg iter wi)
    (hb : ∀ cl s H fp pins C, PG (blk X N scope cl s H fp pins C) tg g ∧ PTs (blk X N scope cl s H fp pins C) ifs tt ∧ PE (blk X N scope cl s H fp pins C) elt te)
    (hc : X.calm = true := by rfl) (eo : X.env.scope = osc := by rfl) (eN : X.N = oN := by rfl)
    (hs : ∀ x, foldedSetIterable iter X.env x = pure x := by intro _; rfl) : PE X (.ListComp elt [⟨tg, iter, ifs, 0⟩] scope pos) (tComp src wi g tt te) := by
  subst eo eN
  constructor
  intro pins s σ H Q I h
  rw [eval_ListComp]
  refine wpAny_comprehension_free (use := none) (cl := closL X.env scope.names []) rfl hs (closureFor_L (I.clos B)) B.kind B.names (thn (hi pins s σ H _ I h) fun xv s1 h1 => thn h1 fun itv s2 h2 => ?_)
  obtain ⟨it, fp, tn, J, H2, e, I2, T, st2, f2, cw⟩ := h2
  subst e
  refine comp_core B hc hb I2 T st2 f2 cw fun D C H' m s' J' nsC fC hDC q => ?_
  refine ⟨m, nsC, fun h' sb => ⟨.ref D, H', ?_, rfl, q⟩⟩
  obtain ⟨f0, f1, _, f3, f4, f5⟩ := fC
  exact J'.turned (t' := s'.toks) (fun b o hb e => (sb.2 b hb).trans e) f0 f1 f3 f4 f5
theorem ps_setComp {tg iter elt : Expr} {ifs : List Expr} {scope osc : Scope} {pos ps py : Pos} {y : Str} {i : Nat} {N oN : List Str} {src : List (Option Nat)} {wi : TI} {g : TG} {tt : TT} {te : TE} (B : BlkOk N src scope osc oN) (hN : X.N.Nodup) (hy : X.N[i]? = some y) (hi : PI X tg iter wi)
    (hb : ∀ cl s H fp pins C, PG (blk X N scope cl s H fp pins C) tg g ∧ PTs (blk X N scope cl s H fp pins C) ifs tt ∧ PE (blk X N scope cl s H fp pins C) elt te)
    (hloc : X.env.scope.names.lookup y = some .local := by rfl)
    (hsw : swapsWith (.ListComp elt [⟨tg, iter, ifs, 0⟩] scope pos) (some (.Name y py)) ps.line X.env = pure true := by rfl)
    (hc : X.calm = true := by rfl) (eo : X.env.scope = osc := by rfl) (eN : X.N = oN := by rfl)
    (hs : ∀ x, foldedSetIterable iter X.env x = pure x := by intro _; rfl) : PS X (.Assign [.Name y py] (.ListComp elt [⟨tg, iter, ifs, 0⟩] scope pos) ps) (tAsg (tComp src wi g tt te) (gName i)) := by
  subst eo eN
  constructor
  intro pins s σ H D I h
  rw [exec_Assign_Name_used _ _ _ _ hsw]
  refine wpAny_bind (wpAny_standAt (wpAny_bind ?_))
  show wpAny _ _ (evalThenUse (.ListComp elt [⟨tg, iter, ifs, 0⟩] scope pos) X.env (assign (.Name y py) X.env)) _ _ s
  have e : evalThenUse (.ListComp elt [⟨tg, iter, ifs, 0⟩] scope pos) X.env (assign (.Name y py) X.env) = (do
      let _ ← comprehension (.ListComp elt [⟨tg, iter, ifs, 0⟩] scope pos) scope X.env (firstIterPos [⟨tg, iter, ifs, 0⟩] pos) (newList []) (firstAsync [⟨tg, iter, ifs, 0⟩]) (firstIter [⟨tg, iter, ifs, 0⟩] X.env) (some (assign (.Name y py) X.env))) := rfl
  rw [e]
  refine wpAny_bind ?_
  refine wpAny_comprehension_free (use := some (assign (.Name y py) X.env)) (cl := closL X.env scope.names []) rfl hs (closureFor_L (I.clos B)) B.kind B.names (thn (hi pins s σ H _ I h) fun xv s1 h1 => thn h1 fun itv s2 h2 => ?_)
  obtain ⟨it, fp, tn, J, H2, e, I2, T, st2, f2, cw⟩ := h2
  subst e
  refine comp_core B hc hb I2 T st2 f2 cw fun D' C H' m s' J' nsC fC hDC q => ?_
  obtain ⟨f0, f1, _, f3, f4, f5⟩ := fC
  refine wpAny_assign_Name (store_ok2 J' hN hy (.inl hloc) (v := .ref D') rfl (fun s'' J'' ⟨a, sb, ha⟩ => ?_) (.inr hloc))
  have haC : C ≠ a := by
    rcases ha with rfl | ha
    · exact f1
    · exact fun z => f4 y a ha z.symm
  refine ⟨m, nsC.sameBut sb haC, fun h' sb' => wpAny_pure (wpAny_pure ⟨_, H', J''.turned (t' := s''.toks) (fun b o hb e => (sb'.2 b hb).trans e) f0 f1 f3 f4 f5, q⟩)⟩
end
end L2

set_option linter.all false
set_option maxRecDepth 100000
set_option Elab.async false
namespace L2
open PySem PySem.Spec PyProof.Rows

section
variable {X : Cx}
inductive I_r_call_isinst (K : PySem.W.Frag) (xs : List V) (H : Hp) (Q : VK) : Prop
  | mk (x : _) (n : _) (t : _) (b : _) (q0 : xs = [x, .ty n]) (q1 : TyOf K H x t) (q2 : PySem.W.kitOne K t (.type n) = some b) (q3 : Q (.bl b) H) : I_r_call_isinst K xs H Q
noncomputable def r_call_isinst (K : PySem.W.Frag) : List V → Hp → VK → Prop := fun xs H Q => I_r_call_isinst K xs H Q
theorem call_isinst : CallR X (.builtin "isinstance") (r_call_isinst X.K) := by
  intro pins s σ H xs us Q I r h
  obtain ⟨x, n, t, b, rfl, ty, e, q⟩ := h
  obtain ⟨u, w', rfl, r1, r2⟩ := vals2 r
  cases r2
  exact isinst_ok I r1 ty e fun tk => ⟨.bl b, H, I.tok _, rfl, q⟩
inductive I_r_op_le_str (x : V) (y : V) (H : Hp) (Q : VK) : Prop
  | mk (i : _) (j : _) (q0 : x = .str i) (q1 : y = .str j) (q2 : Q (.bl (!decide (j.cps.toList < i.cps.toList))) H) : I_r_op_le_str x y H Q
noncomputable def r_op_le_str : V → V → Hp → VK → Prop := fun x y H Q => I_r_op_le_str x y H Q
theorem op_le_str : OpR X (compareOp .LtE) r_op_le_str := by
  intro pins s σ H x y v u Q I rx ry h
  obtain ⟨i, j, rfl, rfl, q⟩ := h
  obtain ⟨t, rfl⟩ := rx
  obtain ⟨t', rfl⟩ := ry
  exact PySem.P.le_str ⟨.bl _, H, I, rfl, q⟩
theorem beq_bool {x : V} {v : Value} {b : Bool} (r : RelV x v) : (v == .bool b) = decide (x = .bl b) := by
  cases x with
  | bl c =>
    cases r
    cases b <;> cases c <;> rfl
  | int i => obtain ⟨t, rfl⟩ := r; simp
  | str i => obtain ⟨t, rfl⟩ := r; simp
  | byt i => obtain ⟨t, rfl⟩ := r; simp
  | flt i => obtain ⟨t, rfl⟩ := r; simp
  | non => cases r; simp
  | ref a => cases r; simp
  | ty a => cases r; simp
theorem plain_bool {x : V} {v : Value} {b : Bool} (r : RelV x v) : plainIs v (.bool b) = true := by
  cases x with
  | bl c => cases r; rfl
  | int i => obtain ⟨t, rfl⟩ := r; rfl
  | str i => obtain ⟨t, rfl⟩ := r; rfl
  | byt i => obtain ⟨t, rfl⟩ := r; rfl
  | flt i => obtain ⟨t, rfl⟩ := r; rfl
  | non => cases r; rfl
  | ref a => cases r; rfl
  | ty a => cases r; rfl
inductive I_r_op_isnotB (x : V) (y : V) (H : Hp) (Q : VK) : Prop
  | mk (b : _) (q0 : y = .bl b) (q1 : Q (.bl (!decide (x = .bl b))) H) : I_r_op_isnotB x y H Q
noncomputable def r_op_isnotB : V → V → Hp → VK → Prop := fun x y H Q => I_r_op_isnotB x y H Q
theorem op_isnotB : OpR X (compareOp .IsNot) r_op_isnotB := by
  intro pins s σ H x y v u Q I rx ry h
  obtain ⟨b, rfl, q⟩ := h
  cases ry
  exact wpAny_isNot_plain (plain_bool rx) ⟨.bl _, H, I, by rw [beq_bool rx]; rfl, q⟩
noncomputable def CDivL (i j : Int) : Prop := 0 < j ∧ j.natAbs.log2 < 9000
theorem CDivL.of {i j : Int} (h : 0 < j) (h2 : j < 2 ^ 512) : CDivL i j := by
  refine ⟨h, ?_⟩
  have h0 : j.natAbs ≠ 0 := by first | lia | omega
  have : j.natAbs.log2 < 512 := (Nat.log2_lt h0).mpr (by
    have e : ((2 : Int) ^ 512) = ((2 ^ 512 : Nat) : Int) := by decide +kernel
    rw [e] at h2
    first | lia | omega)
  first | lia | omega
theorem op_fdivL : OpR X (binaryOp .FloorDiv) (rI CDivL fun i j => .int (i / j)) := opI fun i j _ _ _ _ _ hc q => by
  have h1 : (0 : Int) < j := hc.1
  refine floordiv_int (by first | lia | omega) ?_ (Or.inl (PyProof.noPylong_of_log2 hc.2))
  rw [Int.fdiv_eq_ediv_of_nonneg i (by first | lia | omega)]
  exact q
noncomputable def Its (x : Str) : It := ⟨fun i _ => i < x.cps.size, fun i H v H' => H' = H ∧ ∃ c, x.cps[i]? = some c ∧ v = .str ⟨#[c]⟩, fun i _ => x.cps.size ≤ i⟩
theorem turn_str {P : Program} {w : World} {K : PySem.W.Frag} {tg : Expr} (it : Addr) (x : Str) (t : Tok) (nm : String) (hnm : nm = "str_ascii_iterator" ∨ nm = "str_iterator")
    (W : ∀ A' : Around, A'.handled = none → Walks P w A' it [it] [it] x.cps.size (SignAt x) (fun i h => h.IsStrIter it nm x t i))
    (hself : ∀ (A : Around) (i : Nat) (s : Shared) (Q : Value → Shared → Prop) (E : Value → Shared → Prop), s.heap.IsStrIter it nm x t i → Q (.ref it) s → wpAny (model P w) A (pyIter (.ref it)) Q E s) :
    Turn P w K tg (Its x) [it] it (fun i h => i ≤ x.cps.size ∧ h.IsStrIter it nm x t i) where
  mem := by simp
  obj := fun i h st b hb => by
    have e : b = it := by simpa using hb
    subst e
    obtain ⟨_, o, e, c, d⟩ := st
    exact ⟨o, e, fun v z => by rw [d] at z; cases z⟩
  keep := fun i h h' st k => ⟨st.1, by obtain ⟨_, o, e, c, d⟩ := st; exact ⟨o, k it (by simp) o e, c, d⟩⟩
  item := by
    intro X hP hw hK hc i pins s σ H E I hf st hg
    subst hP hw hK
    obtain ⟨f0, f1, f2, f3, f4, f5⟩ := hf it (by simp)
    refine (W X.A (I.ok.hd hc)).item i s _ _ hg st.2 fun v h' tk hv st' kk => ?_
    obtain ⟨c, u, ec, rfl⟩ := hv
    have I1 : Inv X pins σ H { s with heap := h', toks := tk } := I.turned (fun b o hb e => kk b o (by simpa using hb) e) f0 f1 f3 f4 f5
    obtain ⟨o, e, c', d⟩ := id st'
    refine ⟨_, rfl, go_of (s := { s with heap := h', toks := tk }) e c' d (by rcases hnm with rfl | rfl <;> decide) ⟨.str ⟨#[c]⟩, H, I1, ⟨u, rfl⟩, ⟨rfl, c, ec, rfl⟩, ⟨hg, st'⟩, fun b hb => (hf b hb).1⟩⟩
  done := by
    intro X hP hw hK hc i pins s σ H E I hf st hg
    subst hP hw hK
    obtain ⟨f0, f1, f2, f3, f4, f5⟩ := hf it (by simp)
    have e : i = x.cps.size := Nat.le_antisymm st.1 hg
    subst e
    exact (W X.A (I.ok.hd hc)).done s _ _ st.2 fun h' tk kk => ⟨rfl, I.turned (fun b o hb e => kk b o (by simpa using hb) e) f0 f1 f3 f4 f5⟩
  self := fun A i s Q E st h => hself A i s Q E st.2 h
noncomputable def iStr (tl : TE) : TI := fun σ H R => tl σ H fun x H1 => As V.str x fun z => R (Its z) H1
theorem pi_str {tg l : Expr} {tl : TE} (hl : PE X l tl) : PI X tg l (iStr tl) := by
  constructor
  intro pins s σ H R I h
  refine thn (hl pins s σ H _ I h) fun v s1 ⟨x, H1, I1, r1, q1⟩ => ?_
  obtain ⟨z, rfl, q⟩ := q1
  obtain ⟨t, rfl⟩ := r1
  have fin : ∀ (nm : String) (hnm : nm = "str_ascii_iterator" ∨ nm = "str_iterator")
      (W : ∀ A' : Around, A'.handled = none → Walks X.prog X.w A' s1.heap.objs.size [s1.heap.objs.size] [s1.heap.objs.size] z.cps.size (SignAt z) (fun i h => h.IsStrIter s1.heap.objs.size nm z t i))
      (hself : ∀ (A : Around) (i : Nat) (s : Shared) (Q : Value → Shared → Prop) (E : Value → Shared → Prop), s.heap.IsStrIter s1.heap.objs.size nm z t i → Q (.ref s1.heap.objs.size) s → wpAny (model X.prog X.w) A (pyIter (.ref s1.heap.objs.size)) Q E s),
      PIE X pins σ tg R (.ref s1.heap.objs.size) { s1 with heap := s1.heap.push { cls := .type nm, data := .fields #[.str z t, .int 0 0] } } := fun nm hnm W hself => by
    refine ⟨s1.heap.objs.size, [s1.heap.objs.size], _, _, H1, rfl, I1.kept (t' := s1.toks) fun b o e => Heap.get?_push_of_some _ e, turn_str s1.heap.objs.size z t nm hnm W hself, ⟨Nat.zero_le _, _, Heap.get?_push_size _ rfl, rfl, rfl⟩, fun b hb => ?_, q⟩
    have e : b = s1.heap.objs.size := by simpa using hb
    subst e
    exact I1.fpOk (Nat.le_refl _) (I1.hok.fresh (Nat.le_refl _))
  cases ha : z.cps.all (· < 128)
  · exact wpAny_pyIter_wide ha (fin "str_iterator" (.inr rfl) (fun A' hA => Walks.strWide hA _ z t) fun A i s Q E st h => wpAny_pyIter_striter_wide st h)
  · exact wpAny_pyIter_ascii ha (fin "str_ascii_iterator" (.inl rfl) (fun A' hA => Walks.strAscii hA _ z t) fun A i s Q E st h => wpAny_pyIter_striter_ascii st h)
inductive I_r_sl_str (x : V) (lo : Option Int) (hi : Option Int) (H : Hp) (Q : VK) : Prop
  | mk (z : _) (q0 : x = .str z) (q1 : z.length ≤ sizeLine) (q2 : Q (.str (Txt.slice z lo hi)) H) : I_r_sl_str x lo hi H Q
noncomputable def r_sl_str : V → Option Int → Option Int → Hp → VK → Prop := fun x lo hi H Q => I_r_sl_str x lo hi H Q
theorem sl_str : SlR X r_sl_str := by
  intro pins s σ H x v vl vu lo hi sl Q I rx hs pl pu h
  obtain ⟨z, rfl, hz, q⟩ := h
  obtain ⟨t, rfl⟩ := rx
  refine ⟨"str", _, F.slot_str_getitem.lookup, typeIs_str _ _ _, ?_⟩
  have fin : ∀ t' k, EP X pins σ Q (.str (Txt.slice z lo hi) t') { s with toks := k } := fun t' k => ⟨.str _, H, I.tok _, ⟨_, rfl⟩, q⟩
  obtain ⟨o, ho, hc, hd⟩ := hs
  cases pl with
  | none =>
    cases pu with
    | none => exact wpAny_getItem_str_slice (l := none) (u := none) (st := none) ⟨o, ho, hc, hd⟩ rfl (post_val_or_str ⟨Nat.le_trans (Txt.slice_le z _ _) hz, fin⟩)
    | int j uj => exact wpAny_getItem_str_slice (l := none) (u := some (j, uj)) (st := none) ⟨o, ho, hc, hd⟩ rfl (post_val_or_str ⟨Nat.le_trans (Txt.slice_le z _ _) hz, fin⟩)
  | int i ui =>
    cases pu with
    | none => exact wpAny_getItem_str_slice (l := some (i, ui)) (u := none) (st := none) ⟨o, ho, hc, hd⟩ rfl (post_val_or_str ⟨Nat.le_trans (Txt.slice_le z _ _) hz, fin⟩)
    | int j uj => exact wpAny_getItem_str_slice (l := some (i, ui)) (u := some (j, uj)) (st := none) ⟨o, ho, hc, hd⟩ rfl (post_val_or_str ⟨Nat.le_trans (Txt.slice_le z _ _) hz, fin⟩)
theorem strs_of {ys : List Str} : ∀ {us : List Value}, Vals (ys.map V.str) us → StrsAre us ys := by
  induction ys with
  | nil => intro us h; cases h; exact .nil
  | cons y ys ih =>
    intro us h
    cases h with
    | cons r t => obtain ⟨t', rfl⟩ := r; exact .cons y t' (ih t)
inductive I_r_mt_join (K : PySem.W.Frag) (x : V) (xs : List V) (H : Hp) (Q : VK) : Prop
  | mk (z : _) (p : _) (ys : _) (q0 : x = .str z) (q1 : xs = [.ref p]) (q2 : SqL K H p (ys.map V.str)) (q3 : (ys.map (·.length)).sum + ys.length * z.length ≤ 16777216) (q4 : Q (.str (Txt.join z ys)) H) : I_r_mt_join K x xs H Q
noncomputable def r_mt_join (K : PySem.W.Frag) : V → List V → Hp → VK → Prop := fun x xs H Q => I_r_mt_join K x xs H Q
theorem mt_join : MtR X "str.join" (r_mt_join X.K) := by
  intro pins s σ H x xs v us Q I rx r h
  obtain ⟨z, p, ys, rfl, rfl, hx, hz, q⟩ := h
  obtain ⟨t, rfl⟩ := rx
  obtain ⟨u, rfl, ru⟩ := vals1 r
  cases ru
  obtain ⟨its, rv, pl, _⟩ := I.list hx
  exact join_list pl.isList (by simpa using strs_of rv) hz fun t' k => ⟨.str _, H, I.tok _, ⟨_, rfl⟩, q⟩
theorem bools_of {bs : List Bool} : ∀ {us : List Value}, Vals (bs.map V.bl) us → ∀ (i : Nat) v, us[i]? = some v → ∃ b, bs[i]? = some b ∧ v = .bool b := by
  induction bs with
  | nil => intro us h i v e; cases h; simp at e
  | cons b bs ih =>
    intro us h i v e
    cases h with
    | cons q r =>
      obtain rfl := q
      cases i with
      | zero => simp at e; exact ⟨b, rfl, e.symm⟩
      | succ i =>
        obtain ⟨c, h1, h2⟩ := ih r i v (by simpa using e)
        exact ⟨c, by simpa using h1, h2⟩
theorem range_allB (bs : List Bool) : ((List.range bs.length).all fun i => (bs[i]?).getD true) = bs.all id := by
  rw [Bool.eq_iff_iff, List.all_eq_true, List.all_eq_true]
  constructor
  · intro h b hb
    obtain ⟨i, hi, e⟩ := List.mem_iff_getElem.mp hb
    have := h i (List.mem_range.mpr hi)
    rw [List.getElem?_eq_getElem hi] at this
    simpa [e] using this
  · intro h i hi
    have hi' := List.mem_range.mp hi
    rw [List.getElem?_eq_getElem hi']
    exact h _ (List.getElem_mem hi')
inductive I_r_call_all (K : PySem.W.Frag) (xs : List V) (H : Hp) (Q : VK) : Prop
  | mk (p : Addr) (bs : List Bool) (q0 : xs = [.ref p]) (q1 : SqL K H p (bs.map V.bl)) (q2 : Q (.bl (bs.all id)) H) : I_r_call_all K xs H Q
noncomputable def r_call_all (K : PySem.W.Frag) : List V → Hp → VK → Prop := fun xs H Q => I_r_call_all K xs H Q
theorem call_all (hc : X.calm = true) : CallR X (.builtin "all") (r_call_all X.K) := by
  intro pins s σ H xs us Q I r h
  obtain ⟨p, bs, rfl, hx, q⟩ := h
  obtain ⟨u, rfl, ru⟩ := vals1 r
  cases ru
  obtain ⟨its, rv, pl, _⟩ := I.list hx
  have hl := pl.isList
  have hlen : its.length = bs.length := by have := rv.length; simpa using this.symm
  have hlt : p < s.heap.objs.size := by obtain ⟨_, e, _⟩ := hl; exact Heap.lt_size e
  refine call_all_walk (wpAny_pyIter_list hl ?_)
  refine ⟨s.heap.objs.size, [s.heap.objs.size, p], [s.heap.objs.size], its.toArray.size, _, _, fun i => (bs[i]?).getD true, rfl, Walks.list (A := X.A.in1) (I.ok.hd hc) _ p (Nat.ne_of_lt hlt) its.toArray,
    ⟨⟨_, Heap.get?_push_size _ rfl, rfl, rfl⟩, hl.push _⟩, fun i v s' Q' E' hP hQ => ?_, fun h' tk hk => ?_⟩
  · obtain ⟨b, e, rfl⟩ := bools_of rv i v (by simpa using hP)
    simp only [e, Option.getD_some] at hQ
    exact wpAny_truthy_bool hQ
  · rw [List.size_toArray, hlen, range_allB]
    exact ⟨.bl _, H, I.kept fun b x e => hk b x (fun hm => by rw [List.mem_singleton.mp hm] at e; exact Nat.lt_irrefl _ (Heap.lt_size e)) (Heap.get?_push_of_some _ e), rfl, q⟩
noncomputable def eqVs : List V → List V → Bool
  | [], [] => true
  | x :: xs, y :: ys => eqV x y && eqVs xs ys
  | _, _ => false
theorem eqVs_len : ∀ {xs ys : List V}, xs.length ≠ ys.length → eqVs xs ys = false
  | [], [], h => absurd rfl h
  | [], _ :: _, _ => rfl
  | _ :: _, [], _ => rfl
  | x :: xs, y :: ys, h => by
    show (eqV x y && eqVs xs ys) = false
    rw [eqVs_len (fun e => h (by simp [e])), Bool.and_false]
theorem eqVs_all : ∀ {xs ys : List V}, xs.length = ys.length → ((List.range xs.length).all fun i => eqV (xs[i]?.getD .non) (ys[i]?.getD .non)) = eqVs xs ys
  | [], [], _ => rfl
  | x :: xs, y :: ys, h => by
    have ih := eqVs_all (xs := xs) (ys := ys) (by simpa using h)
    rw [List.length_cons, List.range_succ_eq_map, List.all_cons, List.all_map]
    show (eqV x y && _) = (eqV x y && eqVs xs ys)
    rw [← ih]
    rfl
theorem eq_items {A : Around} {s : Shared} {xs ys : List V} {us ws : List Value} (r1 : Vals xs us) (r2 : Vals ys ws) (f1 : xs.all flatV = true) (f2 : ys.all flatV = true) (j : Nat) (h1 : j < us.toArray.size) (h2 : j < ws.toArray.size) :
    SeqAt.EqAt A s us.toArray[j] ws.toArray[j] (eqV (xs[j]?.getD .non) (ys[j]?.getD .non)) := by
  have l1 := r1.length
  have l2 := r2.length
  have h1' : j < xs.length := by simpa [l1] using h1
  have h2' : j < ys.length := by simpa [l2] using h2
  obtain ⟨u, eu, ru⟩ := r1.get (List.getElem?_eq_getElem h1')
  obtain ⟨w', ew, rw'⟩ := r2.get (List.getElem?_eq_getElem h2')
  have e1 : us.toArray[j] = u := by
    rw [List.getElem?_eq_getElem (by simpa using h1)] at eu
    simpa using eu
  have e2 : ws.toArray[j] = w' := by
    rw [List.getElem?_eq_getElem (by simpa using h2)] at ew
    simpa using ew
  rw [e1, e2, List.getElem?_eq_getElem h1', List.getElem?_eq_getElem h2']
  exact eqAt_V ru rw' (List.all_eq_true.mp f1 _ (List.getElem_mem h1')) (List.all_eq_true.mp f2 _ (List.getElem_mem h2'))
inductive I_r_op_eqL (K : PySem.W.Frag) (x : V) (y : V) (H : Hp) (Q : VK) : Prop
  | mk (p : _) (q : _) (xs : _) (ys : _) (q0 : x = .ref p) (q1 : y = .ref q) (q2 : SqL K H p xs) (q3 : SqL K H q ys) (q4 : xs.all flatV = true) (q5 : ys.all flatV = true) (q6 : Q (.bl (eqVs xs ys)) H) : I_r_op_eqL K x y H Q
noncomputable def r_op_eqL (K : PySem.W.Frag) : V → V → Hp → VK → Prop := fun x y H Q => I_r_op_eqL K x y H Q
theorem op_eqL (hu : X.A.units < cLine) : OpR X (compareOp .Eq) (r_op_eqL X.K) := by
  intro pins s σ H x y v u Q I rx ry h
  obtain ⟨p, q, xs, ys, rfl, rfl, h1, h2, f1, f2, hq⟩ := h
  cases rx
  cases ry
  obtain ⟨us, r1, p1, _⟩ := I.list h1
  obtain ⟨ws, r2, p2, _⟩ := I.list h2
  have l1 := r1.length
  have l2 := r2.length
  by_cases e : xs.length = ys.length
  · refine SeqAt.eq_listAt p1.isList p2.isList (by simp; first | lia | omega) hu (eq_items r1 r2 f1 f2) ?_
    rw [List.size_toArray, ← l1, eqVs_all e]
    exact ⟨.bl _, H, I, rfl, hq⟩
  · refine SeqAt.eq_list_lengthsAt p1.isList p2.isList (by simp; first | lia | omega) hu ?_
    rw [eqVs_len e] at hq
    exact ⟨.bl _, H, I, rfl, hq⟩
inductive I_r_op_neL (K : PySem.W.Frag) (x : V) (y : V) (H : Hp) (Q : VK) : Prop
  | mk (p : _) (q : _) (xs : _) (ys : _) (q0 : x = .ref p) (q1 : y = .ref q) (q2 : SqL K H p xs) (q3 : SqL K H q ys) (q4 : xs.all flatV = true) (q5 : ys.all flatV = true) (q6 : Q (.bl (!eqVs xs ys)) H) : I_r_op_neL K x y H Q
noncomputable def r_op_neL (K : PySem.W.Frag) : V → V → Hp → VK → Prop := fun x y H Q => I_r_op_neL K x y H Q
theorem op_neL (hu : X.A.units < cLine) : OpR X (compareOp .NotEq) (r_op_neL X.K) := by
  intro pins s σ H x y v u Q I rx ry h
  obtain ⟨p, q, xs, ys, rfl, rfl, h1, h2, f1, f2, hq⟩ := h
  cases rx
  cases ry
  obtain ⟨us, r1, p1, _⟩ := I.list h1
  obtain ⟨ws, r2, p2, _⟩ := I.list h2
  have l1 := r1.length
  have l2 := r2.length
  by_cases e : xs.length = ys.length
  · refine SeqAt.RcNeAt.lists p1.isList p2.isList (by simp; first | lia | omega) hu (eq_items r1 r2 f1 f2) X.prog X.w _ _ ?_
    rw [List.size_toArray, ← l1, eqVs_all e]
    exact ⟨.bl _, H, I, rfl, hq⟩
  · refine SeqAt.RcNeAt.lists_lengths p1.isList p2.isList (by simp; first | lia | omega) hu X.prog X.w _ _ ?_
    rw [eqVs_len e] at hq
    exact ⟨.bl _, H, I, rfl, hq⟩
end
end L2

set_option linter.all false
set_option maxRecDepth 100000
set_option Elab.async false
namespace L2
open PySem PySem.Spec PyProof.Rows
theorem sizeLine_big {n : Nat} (h : n ≤ 1000000) : n ≤ sizeLine := by
  have : sizeLine = 16777216 := sizeLine_eq
  first | lia | omega
theorem comp_by {J : It} {g : TG} {tt : TT} {te : TE} {σ₀ : St} {H₀ : Hp} {Q : VK} (n : Nat) (Pv : Nat → List V → St → Hp → Prop) (h0 : Pv 0 [] σ₀ H₀) (hn : n ≤ sizeLine) (hlen : ∀ i ys σ H, Pv i ys σ H → ys.length ≤ i)
    (hgo : ∀ i ys σ H, i < n → Pv i ys σ H → J.go i H) (hstop : ∀ ys σ H, Pv n ys σ H → J.stop n H)
    (hs : ∀ i ys σ H x H', i < n → Pv i ys σ H → J.yld i H x H' → g x σ H' fun σ2 H2 => tt σ2 H2 fun b H3 => if b = true then te σ2 H3 fun v H4 => Pv (i + 1) (ys ++ [v]) σ2 H4 else Pv (i + 1) ys σ2 H3)
    (hd : ∀ ys σ H, Pv n ys σ H → ∀ D, H D = none → Q (.ref D) (upd H D (.lst ys))) : CompW J g tt te σ₀ H₀ Q := by
  refine ⟨fun i m ys σ H => m = n - i ∧ i ≤ n ∧ Pv i ys σ H, ⟨n, by simp, Nat.zero_le _, h0⟩, ?_⟩
  rintro i m ys σ H ⟨rfl, hi, p⟩
  refine ⟨Nat.le_trans (hlen i ys σ H p) (Nat.le_trans hi hn), ?_⟩
  by_cases hlt : i < n
  · exact .inr ⟨hgo i ys σ H hlt p, Pv (i + 1), fun zs σ' H' p' => ⟨n - (i + 1), by first | lia | omega, rfl, hlt, p'⟩, fun x H' y => hs i ys σ H x H' hlt p y⟩
  · have e : i = n := by first | lia | omega
    subst e
    exact .inl ⟨hstop ys σ H p, hd ys σ H p⟩
theorem comp_str {x : Str} {g : TG} {tt : TT} {te : TE} {σ₀ : St} {H₀ : Hp} {Q : VK} (Pv : Nat → List V → St → Hp → Prop) (h0 : Pv 0 [] σ₀ H₀) (hn : x.cps.size ≤ sizeLine) (hlen : ∀ i ys σ H, Pv i ys σ H → ys.length ≤ i)
    (hs : ∀ i c ys σ H, x.cps[i]? = some c → Pv i ys σ H → g (.str ⟨#[c]⟩) σ H fun σ2 H2 => tt σ2 H2 fun b H3 => if b = true then te σ2 H3 fun v H4 => Pv (i + 1) (ys ++ [v]) σ2 H4 else Pv (i + 1) ys σ2 H3)
    (hd : ∀ ys σ H, Pv x.cps.size ys σ H → ∀ D, H D = none → Q (.ref D) (upd H D (.lst ys))) : CompW (Its x) g tt te σ₀ H₀ Q :=
  comp_by x.cps.size Pv h0 hn hlen (fun i _ _ _ h _ => h) (fun _ _ _ _ => Nat.le_refl _) (fun i ys σ H v H' hi p y => by
    obtain ⟨e, c, ec, rfl⟩ := y
    subst e
    exact hs i c ys σ _ ec p) hd
theorem comp_range {lo : Int} {n : Nat} {g : TG} {tt : TT} {te : TE} {σ₀ : St} {H₀ : Hp} {Q : VK} (Pv : Nat → List V → St → Hp → Prop) (h0 : Pv 0 [] σ₀ H₀) (hn : n ≤ sizeLine) (hlen : ∀ i ys σ H, Pv i ys σ H → ys.length ≤ i)
    (hs : ∀ i ys σ H, i < n → Pv i ys σ H → g (.int (lo + i)) σ H fun σ2 H2 => tt σ2 H2 fun b H3 => if b = true then te σ2 H3 fun v H4 => Pv (i + 1) (ys ++ [v]) σ2 H4 else Pv (i + 1) ys σ2 H3)
    (hd : ∀ ys σ H, Pv n ys σ H → ∀ D, H D = none → Q (.ref D) (upd H D (.lst ys))) : CompW (Itr lo n) g tt te σ₀ H₀ Q :=
  comp_by n Pv h0 hn hlen (fun i _ _ _ h _ => h) (fun _ _ _ _ => Nat.le_refl _) (fun i ys σ H v H' hi p y => by
    obtain ⟨e, rfl⟩ := y
    subst e
    exact hs i ys σ _ hi p) hd
theorem comp_list {K : PySem.W.Frag} {a : Addr} {xs : List V} {g : TG} {tt : TT} {te : TE} {σ₀ : St} {H₀ : Hp} {Q : VK} (Pv : Nat → List V → St → Hp → Prop) (h0 : Pv 0 [] σ₀ H₀) (hn : xs.length ≤ sizeLine) (hlen : ∀ i ys σ H, Pv i ys σ H → ys.length ≤ i)
    (hl : ∀ i ys σ H, Pv i ys σ H → SqL K H a xs)
    (hs : ∀ i x ys σ H, xs[i]? = some x → Pv i ys σ H → g x σ H fun σ2 H2 => tt σ2 H2 fun b H3 => if b = true then te σ2 H3 fun v H4 => Pv (i + 1) (ys ++ [v]) σ2 H4 else Pv (i + 1) ys σ2 H3)
    (hd : ∀ ys σ H, Pv xs.length ys σ H → ∀ D, H D = none → Q (.ref D) (upd H D (.lst ys))) : CompW (Itl K a) g tt te σ₀ H₀ Q :=
  comp_by xs.length Pv h0 hn hlen (fun i ys σ H h p => ⟨xs, xs[i], hl i ys σ H p, by simp [h]⟩) (fun ys σ H p => ⟨xs, hl _ ys σ H p, Nat.le_refl _⟩) (fun i ys σ H v H' hi p y => by
    obtain ⟨e, y⟩ := y
    subst e
    exact hs i v ys σ _ (y xs (hl i ys σ _ p)) p) hd
theorem comp_tup {K : PySem.W.Frag} {a : Addr} {xs : List V} {g : TG} {tt : TT} {te : TE} {σ₀ : St} {H₀ : Hp} {Q : VK} (Pv : Nat → List V → St → Hp → Prop) (h0 : Pv 0 [] σ₀ H₀) (hn : xs.length ≤ sizeLine) (hlen : ∀ i ys σ H, Pv i ys σ H → ys.length ≤ i)
    (hl : ∀ i ys σ H, Pv i ys σ H → SqT K H a xs)
    (hs : ∀ i x ys σ H, xs[i]? = some x → Pv i ys σ H → g x σ H fun σ2 H2 => tt σ2 H2 fun b H3 => if b = true then te σ2 H3 fun v H4 => Pv (i + 1) (ys ++ [v]) σ2 H4 else Pv (i + 1) ys σ2 H3)
    (hd : ∀ ys σ H, Pv xs.length ys σ H → ∀ D, H D = none → Q (.ref D) (upd H D (.lst ys))) : CompW (Itt K a) g tt te σ₀ H₀ Q :=
  comp_by xs.length Pv h0 hn hlen (fun i ys σ H h p => ⟨xs, xs[i], hl i ys σ H p, by simp [h]⟩) (fun ys σ H p => ⟨xs, hl _ ys σ H p, Nat.le_refl _⟩) (fun i ys σ H v H' hi p y => by
    obtain ⟨e, y⟩ := y
    subst e
    exact hs i v ys σ _ (y xs (hl i ys σ _ p)) p) hd
noncomputable def KeepBut (p : Addr) (H H' : Hp) : Prop := ∀ b o, H b = some o → b ≠ p → H' b = some o
theorem KeepBut.refl (p : Addr) (H : Hp) : KeepBut p H H := fun _ _ e _ => e
theorem KeepBut.trans {p : Addr} {H H1 H2 : Hp} (a : KeepBut p H H1) (b : KeepBut p H1 H2) : KeepBut p H H2 := fun c o e h => b c o (a c o e h) h
theorem KeepBut.same {p : Addr} {H H1 H2 : Hp} (a : KeepBut p H H1) (b : Same H1 H2) : KeepBut p H H2 := fun c o e h => b c o (a c o e h)
theorem Same.but {p : Addr} {H H1 : Hp} (a : Same H H1) : KeepBut p H H1 := fun c o e _ => a c o e
theorem KeepBut.upd {p : Addr} {o : HO} {H H1 : Hp} (a : KeepBut p H H1) : KeepBut p H (upd H1 p o) := fun c u e h => by rw [upd_ne h]; exact a c u e h
theorem Same.new {p : Addr} {o : HO} {H : Hp} (h : H p = none) : Same H (upd H p o) := fun c u e => by rw [upd_ne (ne_of_none e h)]; exact e
section
variable {X : Cx}
end

section
variable {X : Cx}
inductive I_tMid (t : TS) (D : Ends) (σ : St) (H : Hp) : Prop
  | mk (R : St → Hp → Prop) (q0 : t { D with nx := R } σ H) (q1 : ∀ σ' H', R σ' H' → D.nx σ' H') : I_tMid t D σ H
noncomputable def tMid (t : TS) : TS := fun D σ H => I_tMid t D σ H
theorem ps_mid {st : Stmt} {t : TS} (h : PS X st t) : PS X st (tMid t) := by
  constructor
  intro pins s σ H D I q
  obtain ⟨R, q1, q2⟩ := q
  refine thn (h pins s σ H _ I q1) fun f s' z => ?_
  cases f with
  | next => obtain ⟨σ', H', I', r⟩ := z; exact ⟨σ', H', I', q2 _ _ r⟩
  | brk => exact z
  | cont => exact z
  | ret u => exact z
end
theorem flat_ints : ∀ ns : List Int, (ns.map V.int).all flatV = true
  | [] => rfl
  | _ :: r => flat_ints r
theorem kit_of {K : PySem.W.Frag} {T U : String} {b : Bool} (hn : (Value.type T == Value.type U) = false) (hm : PySem.W.kitMeta U = true) (hs : (PySem.fastBuiltinMro T).map (·.contains (Value.type U)) = some b) : PySem.W.kitOne K (.type T) (.type U) = some b := by
  unfold PySem.W.kitOne
  rw [if_neg (by rw [hn]; exact Bool.false_ne_true)]
  show (if PySem.W.kitMeta U = true then PySem.W.subIn K (Value.type T) (Value.type U) else none) = _
  rw [if_pos hm]
  exact hs
theorem kit_same {K : PySem.W.Frag} {T : String} : PySem.W.kitOne K (.type T) (.type T) = some true := by
  unfold PySem.W.kitOne
  rw [if_pos (by rw [beq_self_eq_true])]
theorem atI_in {xs : List V} {i : Int} (h0 : 0 ≤ i) (h1 : i < xs.length) : ∃ v, v ∈ xs ∧ atI xs i = some v := by
  have hlt : i.toNat < xs.length := by first | lia | omega
  refine ⟨xs[i.toNat], List.getElem_mem hlt, ?_⟩
  have e := atI_nat (xs := xs) (j := i.toNat) (v := xs[i.toNat]) (List.getElem?_eq_getElem hlt)
  rw [Int.toNat_of_nonneg h0] at e
  exact e
noncomputable def noStar : Expr → Bool
  | .Starred .. => false
  | _ => true
theorem star_cons {e : Expr} {es : List Expr} {env : Env} (h : noStar e = true) : starEach (e :: es) env = (false, eval e env) :: starEach es env := by
  cases e <;> first | rfl | cases h
theorem pa_c {X : Cx} {e : Expr} {es : List Expr} {te : TE} {t : TA} (ha : PE X e te) (hr : PA X es t) (hs : noStar e = true := by rfl) : PA X (e :: es) (tCons te t) := pa_cons ha hr (star_cons hs)
end L2

set_option linter.all false
set_option maxRecDepth 100000
set_option Elab.async false
namespace L2
open PySem PySem.Spec PyProof.Rows
section
variable {X : Cx}
structure ZA (z TI TO i1 i2 : Addr) : Prop where
  a1 : TI ≠ z
  a2 : TO ≠ z
  a3 : i1 ≠ z
  a4 : i2 ≠ z
  a5 : TI ≠ TO
  a6 : TI ≠ i1
  a7 : TI ≠ i2
  a8 : TO ≠ i1
  a9 : TO ≠ i2
  a10 : i1 ≠ i2
end
end L2

set_option linter.all false
set_option maxRecDepth 100000
set_option Elab.async false
set_option maxHeartbeats 4000000
namespace L2
open PySem PyProof.Rows
noncomputable def stepS (σ : List Str) (v : Str) : List Str := if v ∈ σ then σ else σ ++ [v]
noncomputable def metS (val : Nat → Str) : Nat → List Str
  | 0 => []
  | i + 1 => stepS (metS val i) (val i)
theorem any_mem (σ : List Str) (k : Str) : (σ.any fun x => x == k) = decide (k ∈ σ) := by
  rw [Bool.eq_iff_iff, List.any_eq_true, decide_eq_true_iff]
  constructor
  · rintro ⟨x, hx, e⟩
    rw [beq_iff_eq] at e
    exact e ▸ hx
  · intro h
    exact ⟨k, h, beq_self_eq_true k⟩
theorem stepS_any (σ : List Str) (v k : Str) : ((stepS σ v).any fun x => x == k) = ((σ.any fun x => x == k) || decide (k = v)) := by
  rw [any_mem, any_mem]
  unfold stepS
  split
  · next h =>
    rw [Bool.eq_iff_iff]
    simp only [decide_eq_true_eq, Bool.or_eq_true]
    constructor
    · intro z; exact .inl z
    · rintro (z | z)
      · exact z
      · exact z ▸ h
  · rw [Bool.eq_iff_iff]
    simp
theorem stepS_length (σ : List Str) (v : Str) : (stepS σ v).length = if (σ.any fun x => x == v) = true then σ.length else σ.length + 1 := by
  rw [any_mem]
  unfold stepS
  by_cases h : v ∈ σ
  · rw [if_pos h, if_pos (decide_eq_true h)]
  · rw [if_neg h, if_neg (by simpa using h), List.length_append]; rfl
theorem metS_le (val : Nat → Str) : ∀ i, (metS val i).length ≤ i
  | 0 => Nat.le_refl _
  | i + 1 => by
    have ih := metS_le val i
    show (stepS _ _).length ≤ _
    rw [stepS_length]
    split <;> first | lia | omega
end L2

set_option linter.all false
set_option maxRecDepth 100000
set_option Elab.async false
set_option maxHeartbeats 4000000
namespace L2
open PySem PyProof.Rows
section
variable {X : Cx}
theorem metS_sub (val : Nat → Str) : ∀ i k, k ∈ metS val i ↔ ∃ j, j < i ∧ val j = k
  | 0, k => by
    show k ∈ [] ↔ _
    simp
  | i + 1, k => by
    show k ∈ stepS (metS val i) (val i) ↔ _
    have ih := metS_sub val i
    unfold stepS
    by_cases h : val i ∈ metS val i
    · rw [if_pos h, ih k]
      constructor
      · rintro ⟨j, hj, e⟩; exact ⟨j, by first | lia | omega, e⟩
      · rintro ⟨j, hj, e⟩
        by_cases z : j = i
        · subst z
          obtain ⟨j', hj', e'⟩ := (ih _).mp h
          exact ⟨j', hj', e'.trans e⟩
        · exact ⟨j, by first | lia | omega, e⟩
    · rw [if_neg h, List.mem_append, ih k, List.mem_singleton]
      constructor
      · rintro (⟨j, hj, e⟩ | e)
        · exact ⟨j, by first | lia | omega, e⟩
        · exact ⟨i, by first | lia | omega, e.symm⟩
      · rintro ⟨j, hj, e⟩
        by_cases z : j = i
        · subst z; exact .inr e.symm
        · exact .inl ⟨j, by first | lia | omega, e⟩
theorem metS_full (val : Nat → Str) : ∀ i, (metS val i).length = i ↔ ((List.range i).map val).Nodup
  | 0 => by simp [metS]
  | i + 1 => by
    have ih := metS_full val i
    have hle := metS_le val i
    show (stepS (metS val i) (val i)).length = _ ↔ _
    rw [stepS_length, any_mem, List.range_succ, List.map_append, List.nodup_append]
    have hm : val i ∈ metS val i ↔ val i ∈ (List.range i).map val := by
      rw [metS_sub, List.mem_map]
      constructor
      · rintro ⟨j, hj, e⟩; exact ⟨j, List.mem_range.mpr hj, e⟩
      · rintro ⟨j, hj, e⟩; exact ⟨j, List.mem_range.mp hj, e⟩
    by_cases h : val i ∈ metS val i
    · rw [if_pos (decide_eq_true h)]
      constructor
      · intro z; first | lia | omega
      · rintro ⟨_, _, z⟩
        exact absurd rfl (z _ (hm.mp h) _ (by simp))
    · rw [if_neg (by simpa using h)]
      constructor
      · intro z
        refine ⟨ih.mp (by first | lia | omega), by simp, fun a ha b hb e => ?_⟩
        have hb' : b = val i := by simpa using hb
        subst hb'
        exact h (hm.mpr (e ▸ ha))
      · rintro ⟨z, _, _⟩
        rw [ih.mpr z]
theorem set_count (ss : List Str) : decide (((metS (fun i => ss.getD i "") ss.length).length : Int) = (ss.length : Int)) = decide ss.Nodup := by
  have e : (List.range ss.length).map (fun i => ss.getD i "") = ss := by
    apply List.ext_getElem?
    intro j
    rw [List.getElem?_map]
    by_cases h : j < ss.length
    · rw [List.getElem?_range h, List.getElem?_eq_getElem h]
      simp [h]
    · rw [List.getElem?_eq_none (by rw [List.length_range]; first | lia | omega), List.getElem?_eq_none (by first | lia | omega)]
      rfl
  have := metS_full (fun i => ss.getD i "") ss.length
  rw [e] at this
  rw [decide_eq_decide, ← this]
  first | lia | omega
end
end L2

set_option linter.all false
set_option maxRecDepth 100000
set_option Elab.async false
set_option maxHeartbeats 4000000
namespace L2
open PySem PySem.Spec PyProof.Rows
section
variable {prog : Program} {w : World} {A : Around} {E : Value → Shared → Prop} {s : Shared}
end
section
variable {X : Cx} {e st : Expr} {te ts : TE} {pos p2 : Pos}
end
end L2

set_option linter.all false
set_option maxRecDepth 100000
set_option Elab.async false
set_option maxHeartbeats 4000000
namespace L2
open PySem PySem.Spec PyProof.Rows
section
variable {X : Cx}
end
end L2

set_option linter.all false
set_option maxRecDepth 100000
set_option Elab.async false
set_option maxHeartbeats 4000000
namespace L2
open PySem PySem.Spec PyProof.Rows
mutual
inductive RdV (m : Bool) (H : Hp) : V → PyData → Prop
  | non : RdV m H .non .none
  | bl (b : Bool) : RdV m H (.bl b) (.bool b)
  | int (i : Int) : RdV m H (.int i) (.int i)
  | str (z : Str) (h : z.length ≤ 1000) : RdV m H (.str z) (.str z)
  | lst {a : Addr} {xs : List V} {ds : List PyData} (hm : m = true) (e : H a = some (.lst xs)) (hl : xs.length ≤ 1000) (r : RdVs m H xs ds) : RdV m H (.ref a) (.list ds)
  | tup {a : Addr} {xs : List V} {ds : List PyData} (e : H a = some (.tup xs)) (hl : xs.length ≤ 1000) (r : RdVs m H xs ds) : RdV m H (.ref a) (.tuple ds)
  | dct {a : Addr} (hm : m = false) (e : H a = some (.dK [])) : RdV m H (.ref a) (.dict [])
inductive RdVs (m : Bool) (H : Hp) : List V → List PyData → Prop
  | nil : RdVs m H [] []
  | cons {x : V} {d : PyData} {xs : List V} {ds : List PyData} (a : RdV m H x d) (r : RdVs m H xs ds) : RdVs m H (x :: xs) (d :: ds)
end
theorem RdV.keep {m : Bool} {H H' : Hp} (k : ∀ a o, H a = some o → (∀ kv r, o ≠ .dK (kv :: r)) → H' a = some o) {x : V} {d : PyData} (h : RdV m H x d) : RdV m H' x d :=
  RdV.rec (motive_1 := fun x d _ => RdV m H' x d) (motive_2 := fun xs ds _ => RdVs m H' xs ds) .non .bl .int .str (fun hm e hl _ r => .lst hm (k _ _ e (fun _ _ z => nomatch z)) hl r) (fun e hl _ r => .tup (k _ _ e (fun _ _ z => nomatch z)) hl r) (fun hm e => .dct hm (k _ _ e (fun _ _ z => nomatch z))) .nil (fun _ _ a r => .cons a r) h
theorem RdVs.keep {m : Bool} {H H' : Hp} (k : ∀ a o, H a = some o → (∀ kv r, o ≠ .dK (kv :: r)) → H' a = some o) {xs : List V} {ds : List PyData} (h : RdVs m H xs ds) : RdVs m H' xs ds :=
  RdVs.rec (motive_1 := fun x d _ => RdV m H' x d) (motive_2 := fun xs ds _ => RdVs m H' xs ds) .non .bl .int .str (fun hm e hl _ r => .lst hm (k _ _ e (fun _ _ z => nomatch z)) hl r) (fun e hl _ r => .tup (k _ _ e (fun _ _ z => nomatch z)) hl r) (fun hm e => .dct hm (k _ _ e (fun _ _ z => nomatch z))) .nil (fun _ _ a r => .cons a r) h
theorem RdV.same {m : Bool} {H H' : Hp} {x : V} {d : PyData} (h : RdV m H x d) (s : Same H H') : RdV m H' x d := h.keep fun a o e _ => s a o e
theorem RdVs.same {m : Bool} {H H' : Hp} {x : List V} {d : List PyData} (h : RdVs m H x d) (s : Same H H') : RdVs m H' x d := h.keep fun a o e _ => s a o e
theorem RdVs.len {m : Bool} {H : Hp} : ∀ {xs : List V} {ds : List PyData}, RdVs m H xs ds → xs.length = ds.length
  | _, _, .nil => rfl
  | _, _, .cons _ r => by rw [List.length_cons, List.length_cons, RdVs.len r]
theorem RdVs.app {m : Bool} {H : Hp} : ∀ {xs : List V} {ds : List PyData} {ys : List V} {es : List PyData}, RdVs m H xs ds → RdVs m H ys es → RdVs m H (xs ++ ys) (ds ++ es)
  | _, _, _, _, .nil, h => h
  | _, _, _, _, .cons a r, h => .cons a (RdVs.app r h)
theorem RdVs.at {m : Bool} {H : Hp} : ∀ {xs : List V} {ds : List PyData} {i : Nat} {x : V}, RdVs m H xs ds → xs[i]? = some x → ∃ d, ds[i]? = some d ∧ RdV m H x d
  | _, _, 0, _, .cons a r, e => by simp at e; subst e; exact ⟨_, rfl, a⟩
  | _, _, i + 1, _, .cons a r, e => by simp at e; simpa using RdVs.at r e
theorem RdVs.drop {m : Bool} {H : Hp} : ∀ {xs : List V} {ds : List PyData} (i : Nat), RdVs m H xs ds → RdVs m H (xs.drop i) (ds.drop i)
  | _, _, 0, h => h
  | _, _, i + 1, .nil => .nil
  | _, _, i + 1, .cons _ r => RdVs.drop i r
theorem RdVs.take {m : Bool} {H : Hp} : ∀ {xs : List V} {ds : List PyData} (i : Nat), RdVs m H xs ds → RdVs m H (xs.take i) (ds.take i)
  | _, _, 0, _ => by simpa using RdVs.nil
  | _, _, i + 1, .nil => .nil
  | _, _, i + 1, .cons a r => .cons a (RdVs.take i r)
theorem RdVs.rep {m : Bool} {H : Hp} {xs : List V} {ds : List PyData} (h : RdVs m H xs ds) : ∀ n : Nat, RdVs m H (List.replicate n xs).flatten (List.replicate n ds).flatten
  | 0 => .nil
  | n + 1 => by rw [List.replicate_succ, List.flatten_cons, List.replicate_succ, List.flatten_cons]; exact h.app (RdVs.rep h n)
section
variable {X : Cx}
mutual
theorem RdV.reads {pins : List (Addr × Obj)} {σ : St} {m : Bool} {H : Hp} {s : Shared} (I : Inv X pins σ H s) : ∀ {x : V} {d : PyData} {v : Value}, RdV m H x d → RelV x v → ∃ as, Reads s.heap v d as ∧ (m = true → d.hasDict = false) ∧ (m = false → ¬ sysModules ∈ as)
  | _, _, _, .non, r => by cases r; exact ⟨[], .none, fun _ => rfl, fun _ => by simp⟩
  | _, _, _, .bl b, r => by cases r; exact ⟨[], .bool b, fun _ => rfl, fun _ => by simp⟩
  | _, _, _, .int i, r => by obtain ⟨t, rfl⟩ := r; exact ⟨[], .int i t, fun _ => rfl, fun _ => by simp⟩
  | _, _, _, .str z _, r => by obtain ⟨t, rfl⟩ := r; exact ⟨[], .str z t, fun _ => rfl, fun _ => by simp⟩
  | _, _, _, .lst hm e _ rs, r => by
    cases r
    obtain ⟨_, its, n, rv, eo⟩ : ObjOk X.prog X.w H s.heap _ (.lst _) := I.hok _ _ e
    obtain ⟨as, ra, h1, h2⟩ := RdVs.reads I rs rv
    exact ⟨_, .list eo rfl rfl (by simpa using ra), fun _ => h1 hm, fun z => by rw [hm] at z; cases z⟩
  | _, _, _, .tup e _ rs, r => by
    cases r
    obtain ⟨_, its, rv, pt⟩ : ObjOk X.prog X.w H s.heap _ (.tup _) := I.hok _ _ e
    obtain ⟨as, ra, h1, h2⟩ := RdVs.reads I rs rv
    obtain ⟨o, eo, hc, n, hd⟩ := pt
    exact ⟨as, .tuple eo hc hd (by simpa using ra), h1, h2⟩
  | _, _, _, .dct hm e, r => by
    cases r
    obtain ⟨_, hs, vs, kv, o, es, ep, eo, hx, hd, hk, hp, _⟩ : ObjOk X.prog X.w H s.heap _ (.dK []) := I.hok _ _ e
    cases kv
    have hes : es.toList = [] := by
      cases h : es.toList with
      | nil => rfl
      | cons y r => rw [h] at hp; cases hp
    refine ⟨_, Reads.dict (kvs := []) (as := []) (bs := []) eo hx.1 hd (by rw [hes]; exact .nil) (by rw [hes]; exact .nil), (fun z => by rw [hm] at z; cases z), fun _ => ?_⟩
    intro z
    simp at z
    rw [z] at hs
    simp at hs
theorem RdVs.reads {pins : List (Addr × Obj)} {σ : St} {m : Bool} {H : Hp} {s : Shared} (I : Inv X pins σ H s) : ∀ {xs : List V} {ds : List PyData} {vs : List Value}, RdVs m H xs ds → Vals xs vs → ∃ as, ReadsAll s.heap vs ds as ∧ (m = true → PyData.hasDictAll ds = false) ∧ (m = false → ¬ sysModules ∈ as)
  | _, _, _, .nil, .nil => ⟨[], .nil, fun _ => rfl, fun _ => by simp⟩
  | _, _, _, .cons a r, .cons ra rr => by
    obtain ⟨as, h1, h2, h3⟩ := RdV.reads I a ra
    obtain ⟨bs, g1, g2, g3⟩ := RdVs.reads I r rr
    refine ⟨as ++ bs, .cons h1 g1, fun z => ?_, fun z w => ?_⟩
    · unfold PyData.hasDictAll
      rw [h2 z, g2 z]
      rfl
    · rcases List.mem_append.mp w with w | w
      · exact h3 z w
      · exact g3 z w
end
inductive I_r_call_repr (xs : List V) (H : Hp) (Q : VK) : Prop
  | mk (a : Addr) (m : Bool) (d : PyData) (q0 : xs = [.ref a]) (q1 : RdV m H (.ref a) d) (q2 : d.showable = true) (q3 : d.depth ≤ 20) (q4 : d.shown.length ≤ sizeLine) (q5 : Q (.str d.shown) H) : I_r_call_repr xs H Q
noncomputable def r_call_repr : List V → Hp → VK → Prop := fun xs H Q => I_r_call_repr xs H Q
theorem call_repr {k : Nat} (hr : Room k X.A) : CallR X (.builtin "repr") r_call_repr := by
  intro pins s σ H xs us Q I r h
  obtain ⟨a, m, d, rfl, hx, hs, hd, hz, q⟩ := h
  obtain ⟨u, rfl, ru⟩ := vals1 r
  cases ru
  obtain ⟨as, hrd, h1, h2⟩ := RdV.reads I hx rfl
  refine repr_of_reads' hrd hs (fun z => ?_) hr.gd (by have := hr.un; first | lia | omega) (fun b o e => e) (fun h' u tk hk => ⟨.str d.shown, H, I.kept (t' := tk) hk, ⟨u, rfl⟩, q⟩) hz
  cases m with
  | true => rw [h1 rfl] at z; cases z
  | false => exact h2 rfl
end
end L2

set_option linter.all false
set_option maxRecDepth 100000
set_option Elab.async false
set_option maxHeartbeats 4000000
namespace L2
open PySem PySem.Spec PyProof.Rows
section
variable {prog : Program} {w : World} {A : Around} {E : Value → Shared → Prop} {s : Shared}
theorem getItem_tuple_all {t sl : Addr} {items : Array Value} {vl vu : Value} {lo hi : Option Int} {Q : Value → Shared → Prop} (ht : IsTup s.heap t items) (hs : s.heap.IsSliceOf sl vl vu .none) (pl : IsPart vl lo) (pu : IsPart vu hi)
    (hw : HT.sIx items.size 0 lo = 0 ∧ HT.sIx items.size items.size hi = items.size) (h : Q (.ref t) s) : wpAny (model prog w) A (getItem (.ref t) (.ref sl)) Q E s := by
  obtain ⟨os, hos, hcs, hds⟩ := id hs
  have hTs : s.TypeIs (.ref sl) "slice" := ⟨os, hos, hcs⟩
  unfold getItem
  try with_reducible refine wpAny_holding ?_
  first | refine wpAny_bind (wpAny_pure ?_) | skip
  refine wpAny_bind (wpAny_sequenceKey ht.typeIs (by decide) ?_)
  refine wpAny_bind (wpAny_callSpecial?_slot (name := Str.ofString "__getitem__") ht.typeIs PyProof.Rows.slot_tuple_getitem
    (wpAny_call_entry PyProof.Rows.slot_tuple_getitem ht.typeIs entry_tuple_getitem ?_ (args_tuple_getitem _ _)))
  show wpAny _ _ (Builtin.Tuple.tupleItemsOf (.ref t) >>= _) _ _ s
  refine wpAny_bind (tupleItemsOf_ ht ?_)
  refine wpAny_bind (wpAny_typeOf hTs ?_)
  rw [if_pos (by decide)]
  refine wpAny_bind (HT.sliceApplied_gen hs pl pu ?_)
  have hyes : (((HT.sIx items.size 0 lo : Nat) : Int) == 0 && (1 : Int) == 1 && (HT.sIx items.size items.size hi - HT.sIx items.size 0 lo) == items.size) = true := by
    rw [hw.1, hw.2]
    simp
  show wpAny _ _ (if (((HT.sIx items.size 0 lo : Nat) : Int) == 0 && (1 : Int) == 1 && (HT.sIx items.size items.size hi - HT.sIx items.size 0 lo) == items.size) = true then _ else _) _ _ s
  rw [if_pos hyes]
  obtain ⟨⟨cls, dd, data, sl'⟩, ho, hc, n, hd⟩ := id ht
  simp only at hc hd
  subst hc hd
  wp_walk
  exact ⟨_, rfl, wpAny_pure h⟩
end
section
variable {X : Cx}
inductive I_rSlA (K : PySem.W.Frag) (x : V) (lo : Option Int) (hi : Option Int) (H : Hp) (Q : VK) : Prop
  | mk (a : _) (xs : _) (q0 : x = .ref a) (q1 : H a = some (.tup xs)) (q2 : ∀ r H', Same H H' → H' r = some (.tup (cutV xs lo hi)) → Q (.ref r) H') : I_rSlA K x lo hi H Q
noncomputable def rSlA (K : PySem.W.Frag) : V → Option Int → Option Int → Hp → VK → Prop := fun x lo hi H Q => I_rSlA K x lo hi H Q
theorem sl_tupA : SlR X (rSlA X.K) := by
  intro pins s σ H x v vl vu lo hi sl Q I rx hs pl pu h
  obtain ⟨a, xs, rfl, hx, q⟩ := h
  by_cases hw : HT.sIx xs.length 0 lo = 0 ∧ HT.sIx xs.length xs.length hi = xs.length
  · cases rx
    obtain ⟨its, r, ht, hz⟩ := I.tuple (SqT.of hx)
    have hlen : its.toArray.size = xs.length := by rw [List.size_toArray]; exact r.length.symm
    refine ⟨"tuple", _, PyProof.Rows.slot_tuple_getitem.lookup, ht.typeIs, ?_⟩
    refine getItem_tuple_all ht hs pl pu (by rw [hlen]; exact hw) ⟨.ref a, H, I, rfl, q a H (Same.refl H) ?_⟩
    have e : cutV xs lo hi = xs := by
      unfold cutV
      rw [hw.1, hw.2, List.drop_zero, Nat.sub_zero, List.take_length]
    rw [e]
    exact hx
  · exact sl_tup pins s σ H _ v vl vu lo hi sl Q I rx hs pl pu ⟨a, xs, rfl, SqT.of hx, hw, fun p hp => q p _ (Same.new hp) upd_same⟩
theorem cut_to {α : Type} (xs : List V) (n : Nat) : cutV xs none (some (n : Int)) = xs.take n := by
  unfold cutV
  rw [HT.sIx_none, HT.sIx_nat, List.drop_zero, Nat.sub_zero]
  by_cases h : n ≤ xs.length
  · rw [Nat.min_eq_left h]
  · rw [Nat.min_eq_right (by first | lia | omega), List.take_length, List.take_of_length_le (by first | lia | omega)]
theorem cut_from {α : Type} (xs : List V) (n : Nat) : cutV xs (some (n : Int)) none = xs.drop n := by
  unfold cutV
  rw [HT.sIx_none, HT.sIx_nat]
  by_cases h : n ≤ xs.length
  · rw [Nat.min_eq_left h]
    exact List.take_of_length_le (by rw [List.length_drop]; exact Nat.le_refl _)
  · rw [Nat.min_eq_right (by first | lia | omega), List.drop_eq_nil_of_le (Nat.le_refl _), List.drop_eq_nil_of_le (by first | lia | omega), List.take_nil]
theorem RdVs.flip {H : Hp} {xs : List V} {ds : List PyData} (h : RdVs false H xs ds) (hd : PyData.hasDictAll ds = false) (m : Bool) : RdVs m H xs ds :=
  RdVs.rec (m := false) (H := H) (motive_1 := fun x d _ => d.hasDict = false → RdV m H x d) (motive_2 := fun xs ds _ => PyData.hasDictAll ds = false → RdVs m H xs ds) (fun _ => .non) (fun b _ => .bl b) (fun i _ => .int i) (fun z h _ => .str z h) (fun hm _ _ _ _ _ => nomatch hm) (fun e hl _ ih h => .tup e hl (ih (by unfold PyData.hasDict at h; exact h))) (fun _ _ h => by unfold PyData.hasDict at h; cases h) (fun _ => .nil) (fun _ _ ih1 ih2 h => by unfold PyData.hasDictAll at h; rw [Bool.or_eq_false_iff] at h; exact .cons (ih1 h.1) (ih2 h.2)) h hd
theorem RdV.keepF {H H' : Hp} (k : ∀ a o, H a = some o → (∀ kv r, o ≠ .dK (kv :: r)) → (∀ xs, o ≠ .lst xs) → H' a = some o) {x : V} {d : PyData} (h : RdV false H x d) : RdV false H' x d :=
  RdV.rec (m := false) (H := H) (motive_1 := fun x d _ => RdV false H' x d) (motive_2 := fun xs ds _ => RdVs false H' xs ds) .non .bl .int .str (fun hm _ _ _ _ => nomatch hm) (fun e hl _ r => .tup (k _ _ e (fun _ _ z => nomatch z) (fun _ z => nomatch z)) hl r) (fun hm e => .dct hm (k _ _ e (fun _ _ z => nomatch z) (fun _ z => nomatch z))) .nil (fun _ _ a r => .cons a r) h
theorem RdVs.keepF {H H' : Hp} (k : ∀ a o, H a = some o → (∀ kv r, o ≠ .dK (kv :: r)) → (∀ xs, o ≠ .lst xs) → H' a = some o) {xs : List V} {ds : List PyData} (h : RdVs false H xs ds) : RdVs false H' xs ds :=
  RdVs.rec (m := false) (H := H) (motive_1 := fun x d _ => RdV false H' x d) (motive_2 := fun xs ds _ => RdVs false H' xs ds) .non .bl .int .str (fun hm _ _ _ _ => nomatch hm) (fun e hl _ r => .tup (k _ _ e (fun _ _ z => nomatch z) (fun _ z => nomatch z)) hl r) (fun hm e => .dct hm (k _ _ e (fun _ _ z => nomatch z) (fun _ z => nomatch z))) .nil (fun _ _ a r => .cons a r) h
end
end L2

set_option linter.all false
set_option maxRecDepth 100000
set_option Elab.async false
set_option maxHeartbeats 4000000
namespace L2
open PySem PySem.Spec PyProof.Rows PySem.W
noncomputable def KAll {α : Type} (n : Nat) (P : α → Prop) : KasT α → Prop
  | .ret a => P a
  | .ask i j k => i < n ∧ j < n ∧ ∀ b, KAll n P (k b)
theorem KAll.bind {α β : Type} {n : Nat} {P : α → Prop} {Q : β → Prop} {f : α → KasT β} : ∀ {t : KasT α}, KAll n P t → (∀ a, P a → KAll n Q (f a)) → KAll n Q (t.bind f)
  | .ret a, h, g => by rw [KasT.bind.eq_1]; exact g a h
  | .ask i j k, h, g => by
    rw [KasT.bind.eq_2]
    exact ⟨h.1, h.2.1, fun b => KAll.bind (h.2.2 b) g⟩
noncomputable def Pm (n : Nat) (p : Array Nat) : Prop := p.Perm (List.range n).toArray
theorem Pm.lt {n : Nat} {p : Array Nat} (h : Pm n p) (hn : 0 < n) (i : Nat) : p.getD i 0 < n := by
  by_cases hi : i < p.size
  · have hm : p[i] ∈ (List.range n).toArray := h.mem_iff.mp (Array.getElem_mem hi)
    have : p[i] < n := by simpa using hm
    rw [Array.getD_eq_getD_getElem?, Array.getElem?_eq_getElem hi]
    exact this
  · rw [Array.getD_eq_getD_getElem?, Array.getElem?_eq_none (by first | lia | omega)]
    exact hn
theorem Pm.rev {n : Nat} {p : Array Nat} (h : Pm n p) (i j : Nat) : Pm n (kas_rev p i j) := (mirror_perm p i j _).trans h
theorem Pm.bub {n : Nat} {p : Array Nat} (h : Pm n p) (i j : Nat) : Pm n (bubble p i j) := (bubble_perm p i j).trans h
section
variable {n : Nat} (hn : 0 < n)
include hn
theorem kall_asc {p : Array Nat} (h : Pm n p) : ∀ (f x : Nat), KAll n (fun _ => True) (kas_asc p f x)
  | 0, x => by rw [kas_asc.eq_1]; trivial
  | f + 1, x => by
    rw [kas_asc.eq_2]
    refine ⟨h.lt hn _, h.lt hn _, fun b => ?_⟩
    cases b
    · exact kall_asc h f (x + 1)
    · exact trivial
theorem kall_desc : ∀ (f : Nat) {p : Array Nat} (x y : Nat), Pm n p → KAll n (fun r => Pm n r.1) (kas_desc f p x y)
  | 0, p, x, y, h => by rw [kas_desc.eq_1]; exact h
  | f + 1, p, x, y, h => by
    rw [kas_desc.eq_2]
    refine ⟨h.lt hn _, h.lt hn _, fun b => ?_⟩
    cases b
    · refine ⟨h.lt hn _, h.lt hn _, fun b => ?_⟩
      cases b
      · exact kall_desc f _ _ h
      · exact h
    · show KAll n _ (if y > 0 then _ else _)
      split
      · exact kall_desc f _ _ (h.rev _ _)
      · exact kall_desc f _ _ h
theorem kall_place {p : Array Nat} (h : Pm n p) (k : Nat) : ∀ (f x y : Nat), KAll n (fun _ => True) (kas_place p k f x y)
  | 0, x, y => by rw [kas_place.eq_1]; trivial
  | f + 1, x, y => by
    rw [kas_place.eq_2]
    split
    · trivial
    · refine ⟨h.lt hn _, h.lt hn _, fun b => ?_⟩
      cases b
      · exact kall_place h k f _ _
      · exact kall_place h k f _ _
theorem kall_bin : ∀ (f : Nat) {p : Array Nat} (x : Nat), Pm n p → KAll n (Pm n) (kas_bin f p x)
  | 0, p, x, h => by rw [kas_bin.eq_1]; exact h
  | f + 1, p, x, h => by
    rw [kas_bin.eq_2]
    exact (kall_place hn h x _ _ _).bind fun l _ => kall_bin f _ (h.bub _ _)
theorem kall_tail3 {p : Array Nat} (h : Pm n p) (a b : Nat) : KAll n (fun r => Pm n r.2) (kas_tail3 a b p) := by
  unfold kas_tail3
  exact (kall_asc hn (h.rev _ _) _ _).bind fun m _ => h.rev _ _
theorem kall_descPart {p : Array Nat} (h : Pm n p) (a b : Nat) : KAll n (fun r => Pm n r.2) (kas_descPart a b p) := by
  unfold kas_descPart
  refine (kall_desc hn _ _ _ h).bind fun r hr => ?_
  split
  · exact kall_tail3 hn (hr.rev _ _) _ _
  · exact kall_tail3 hn hr _ _
theorem kall_count {p : Array Nat} (h : Pm n p) (a : Nat) : KAll n (fun r => Pm n r.2) (kas_count a p) := by
  unfold kas_count
  refine (kall_asc hn h _ _).bind fun m _ => ?_
  split
  · exact h
  · split
    · refine ⟨h.lt hn _, h.lt hn _, fun b => ?_⟩
      cases b
      · exact kall_descPart hn (h.rev _ _) _ _
      · exact h
    · exact kall_descPart hn h _ _
theorem kall_sort : KAll n (Pm n) (kas_sort n) := by
  unfold kas_sort
  refine (kall_count hn (Array.Perm.refl _) n).bind fun r hr => ?_
  split
  · exact kall_bin hn _ _ hr
  · exact hr
end
end L2

set_option linter.all false
set_option maxRecDepth 100000
set_option Elab.async false
set_option maxHeartbeats 4000000
namespace L2
open PySem PySem.Spec PyProof.Rows PySem.W
section
variable {prog : Program} {w : World} {A : Around} {E : Value → Shared → Prop} {s : Shared}
theorem items_tup {x : Addr} {its : Array Value} {Q : Array Value → Shared → Prop} (hx : IsTup s.heap x its) (h : Q its s) : wpAny (model prog w) A (Builtin.List.listItems (Value.ref x)) Q E s := by
  obtain ⟨⟨cls, dd, data, sl⟩, ho, hc, n, hd⟩ := id hx
  simp only at hc hd
  subst hc hd
  unfold Builtin.List.listItems
  wp_walk
  exact h
end
end L2

set_option linter.all false
set_option maxRecDepth 100000
set_option Elab.async false
set_option maxHeartbeats 4000000
namespace L2
open PySem PySem.Spec PyProof.Rows PySem.W
section
variable {prog : Program} {w : World} {A : Around} {E : Value → Shared → Prop} {s : Shared}
inductive I_KeyT (h : Heap) (v : Value) : Prop
  | mk (t : _) (a : _) (b : _) (c : _) (u1 : _) (u2 : _) (u3 : _) (q0 : v = .ref t) (q1 : IsTup h t #[.int a u1, .int b u2, .str c u3]) : I_KeyT h v
noncomputable def KeyT (h : Heap) (v : Value) : Prop := I_KeyT h v
theorem mapM_any {α β : Type} {f : α → Sem β} {R : α → β → Prop} : ∀ (l : List α) {Q : List β → Shared → Prop}, (∀ v ∈ l, ∃ r, R v r ∧ ∀ Q' : β → Shared → Prop, Q' r s → wpAny (model prog w) A (f v) Q' E s) → (∀ rs : List β, rs.length = l.length → (∀ r ∈ rs, ∃ v ∈ l, R v r) → Q rs s) → wpAny (model prog w) A (List.mapM f l) Q E s
  | [], Q, _, q => by
    rw [List.mapM_nil]
    exact wpAny_pure (q [] rfl fun r hr => by simp at hr)
  | a :: l, Q, h, q => by
    rw [List.mapM_cons]
    obtain ⟨r, hr, hw⟩ := h a List.mem_cons_self
    refine wpAny_bind (hw _ (wpAny_bind (mapM_any l (fun v hv => h v (List.mem_cons_of_mem _ hv)) fun rs hl hrs => wpAny_pure (q (r :: rs) (by rw [List.length_cons, List.length_cons, hl]) fun z hz => ?_))))
    rcases List.mem_cons.mp hz with rfl | hz
    · exact ⟨a, List.mem_cons_self, hr⟩
    · obtain ⟨v, hv, hR⟩ := hrs z hz
      exact ⟨v, List.mem_cons_of_mem _ hv, hR⟩
end
end L2

set_option linter.all false
set_option maxRecDepth 100000
set_option Elab.async false
set_option maxHeartbeats 4000000
namespace L2
open PySem PySem.Spec PyProof.Rows PySem.W
section
variable {prog : Program} {w : World} {A : Around} {E : Value → Shared → Prop} {s : Shared}
end
end L2

set_option linter.all false
set_option maxRecDepth 100000
set_option Elab.async false
set_option maxHeartbeats 4000000
namespace L2
open PySem PySem.Spec PyProof.Rows PySem.W
section
variable {X : Cx} {pins : List (Addr × Obj)} {σ : St}
inductive I_KeyH (H : Hp) (v : Value) : Prop
  | mk (t : _) (a : _) (b : _) (c : _) (q0 : v = .ref t) (q1 : H t = some (.tup [.int a, .int b, .str c])) : I_KeyH H v
noncomputable def KeyH (H : Hp) (v : Value) : Prop := I_KeyH H v
theorem KeyH.same {H H' : Hp} {v : Value} (h : KeyH H v) (s : Same H H') : KeyH H' v := by
  obtain ⟨t, a, b, c, e, ht⟩ := h
  exact ⟨t, a, b, c, e, s _ _ ht⟩
end
end L2

set_option linter.all false
set_option maxRecDepth 100000
set_option Elab.async false
set_option maxHeartbeats 4000000
namespace L2
open PySem PySem.Spec PyProof.Rows PySem.W
section
variable {X : Cx} {pins : List (Addr × Obj)} {σ : St} {H : Hp} {s : Shared}
end
end L2

set_option linter.all false
set_option maxRecDepth 100000
set_option Elab.async false
set_option maxHeartbeats 4000000
namespace L2
open PySem PySem.Spec PyProof.Rows PySem.W
section
variable {X : Cx} {e : Expr} {ta : TA}
end
end L2

set_option linter.all false
set_option maxRecDepth 100000
set_option Elab.async false
set_option maxHeartbeats 4000000
namespace L2
open PySem PySem.Spec PyProof.Rows
open PySem.SeqAt
open PySem.AutoSeq1 (wpAny_loadPart')
open PySem.MeetsSeq PySem.MeetsSeq2 PySem.MeetsSeq3
end L2

set_option linter.all false
set_option maxRecDepth 100000
set_option Elab.async false
set_option maxHeartbeats 4000000
namespace L2
open PySem PySem.Spec PyProof.Rows
inductive I_FnV (X : Cx) (k : Nat) (ps : List Str) (f : Addr) (sp : Sp) : Prop
  | mk (fd : FuncData) (q0 : FnOk X.prog X.w X.K X.mg X.base CX0 k f fd ps sp) (q1 : PySem.W.keepIn X.K (.ref f) = true) (q2 : Binds X.K fd ps []) : I_FnV X k ps f sp
noncomputable def FnV (X : Cx) (k : Nat) (ps : List Str) (f : Addr) (sp : Sp) : Prop := I_FnV X k ps f sp
noncomputable def tCallV (X : Cx) (k : Nat) (ps : List Str) (tv : TE) (t : TA) : TE := fun σ H Q => tv σ H fun v H1 => ∃ (f : Addr) (sp : Sp), v = .ref f ∧ FnV X k ps f sp ∧ t σ H1 fun vs H2 => sp vs H2 Q E0
theorem pe_callV {X : Cx} {k : Nat} {ps : List Str} {x : Str} {p pos : Pos} {e : Expr} {es : List Expr} {tv : TE} {t : TA} (hv : PE X (.Name x p) tv) (hr : Room k X.A) (ha : PA X (e :: es) t)
    (he : starEach (e :: es) X.env = (false, eval e X.env) :: starEach es X.env := by rfl) (hpl : (backTo pos (starEach es X.env)).any (·.1) = false := by rfl) :
    PE X (.Call (.Name x p) (e :: es) [] pos) (tCallV X k ps tv t) := by
  constructor
  intro pins s σ H Q I h
  refine wpAny_Call_Name_kw (thn (hv pins s σ H _ I h) fun u s1 ⟨y, H1, I1, ry, f, sp, ey, ⟨fd, F, hk, hb⟩, h2⟩ => ?_)
  subst ey
  cases ry
  refine PySem.W.callWith_K (h₀ := X.base) I1.ok.mod.kin hk (thn (ha pos pins s1 σ H1 _ I1 h2) fun us s2 ⟨vs, H2, I2, r, q⟩ => ⟨I2.kIn, ?_⟩) he hpl
  exact run_fn F hr hb .nil pass0 I2 r (by rw [List.append_nil]; exact q)
noncomputable def tKGet (kvs : List (Key × V)) (ty : TE) : TE := fun σ H Q => ty σ H fun y H2 => ∃ k v, y = kV k ∧ valV kvs k = some v ∧ Q v H2
theorem pe_kget {X : Cx} {i : Expr} {x : Str} {ty : TE} {a : Addr} {vs : List (Key × Value)} {kvs : List (Key × V)} {p pos : Pos} (hd : ∀ h : Heap, X.K.In h → h.DictOf (mixKind X.prog X.w) a vs) (rel : KV kvs vs) (hg : Gl X x) (hm : X.mg x = some (.ref a)) (hi : PE X i ty) (hs : NoSl i) (hdb : (x == ("__debug__" : Str)) = false := by decide) :
    PE X (.Subscript (.Name x p) i pos) (tKGet kvs ty) := by
  constructor
  intro pins s σ H Q I h
  have ho : PE X (.Name x p) (tC (.ref a)) := pe_glob hg hm rfl hdb
  refine subD_of PySem.F.slot_dict_getitem.lookup hs (thn (ho pins s σ H (fun v H1 => v = .ref a ∧ ty σ H1 fun y H2 => ∃ k v, y = kV k ∧ valV kvs k = some v ∧ Q v H2) I ⟨rfl, h⟩) fun u s1 ⟨x, H1, I1, rx, ex, q1⟩ => thn (hi pins s1 σ H1 _ I1 q1) fun iv s2 ⟨y, H2, I2, ry, k, v, ey, l, q2⟩ => ?_)
  subst ex ey
  obtain rfl : u = Value.ref a := rx
  have dd := hd s2.heap I2.kIn
  refine ⟨?_, ?_⟩
  · obtain ⟨o, es, ep, e, hx, _⟩ := dd
    exact ⟨o, e, hx.1⟩
  · obtain ⟨w', hw, rw'⟩ := RelO.some_of (v := v) (o := valueAt vs k) (by rw [← l]; exact rel.val k)
    exact wpAny_getItem_of (kV_is ry) dd.mapOf hw ⟨v, H2, I2.tok _, rw', q2⟩
theorem op_notInK {X : Cx} {a : Addr} {vs : List (Key × Value)} {kvs : List (Key × V)} (hd : ∀ h : Heap, X.K.In h → h.DictOf (mixKind X.prog X.w) a vs) (rel : KV kvs vs) (hz : (a == sysModules) = false) : OpR X (compareOp .NotIn) (fun x y H Q => ∃ k, x = kV k ∧ y = .ref a ∧ Q (.bl (!(valV kvs k).isSome)) H) := by
  intro pins s σ H x y v u Q I rx ry h
  obtain ⟨k, rfl, rfl, q⟩ := h
  cases ry
  refine wpAny_notIn_of (kV_is rx) hz (hd _ I.kIn).mapOf ?_
  rw [← (rel.val k).isSome_eq]
  exact ⟨.bl _, H, I.tok _, rfl, q⟩
end L2

set_option linter.all false
set_option maxRecDepth 100000
set_option Elab.async false
set_option maxHeartbeats 4000000
namespace L2
open PySem PySem.Spec PyProof.Rows
section
variable {X : Cx} {pins : List (Addr × Obj)} {σ : St} {H : Hp} {s : Shared} {A : Around} {E : Value → Shared → Prop} {Q : Value → Shared → Prop} {b : Bool}
theorem isinst_tup {x : V} {u t : Value} {q : Addr} {n1 n2 : String} (I : Inv X pins σ H s) (rx : RelV x u) (ty : TyOf X.K H x t) (hq : H q = some (.tup [.ty n1, .ty n2])) (e : PySem.W.kitAny X.K t [.type n1, .type n2] = some b) (h : ∀ tk, Q (.bool b) { s with toks := tk }) :
    wpAny (model X.prog X.w) A (call (.builtin "isinstance") [u, .ref q]) Q E s := by
  obtain ⟨_, its, rv, hT⟩ : ObjOk X.prog X.w H s.heap q (.tup [.ty n1, .ty n2]) := I.hok _ _ hq
  obtain ⟨⟨cls, dd, data, sl⟩, ho, hc, n, hd⟩ := id hT
  simp only at hc hd
  subst hc hd
  have hi : its = [.type n1, .type n2] := by
    cases rv with
    | cons r1 rv =>
      cases rv with
      | cons r2 rv =>
        cases rv
        cases r1
        cases r2
        rfl
  subst hi
  cases ty with
  | non => cases (show u = Value.none from rx); exact PySem.W.kia_tup PySem.W.kitx_none I.kIn True.intro ho e (fun z => nomatch z) h
  | bl y => cases (show u = Value.bool y from rx); exact PySem.W.kia_tup PySem.W.kitx_bool I.kIn True.intro ho e (fun z => nomatch z) h
  | int i => obtain ⟨t, q⟩ := (show ∃ t, u = Value.int i t from rx); cases q; exact PySem.W.kia_tup PySem.W.kitx_int I.kIn True.intro ho e (fun z => nomatch z) h
  | str y => obtain ⟨t, q⟩ := (show ∃ t, u = Value.str y t from rx); cases q; exact PySem.W.kia_tup PySem.W.kitx_str I.kIn True.intro ho e (fun z => nomatch z) h
  | flt y => obtain ⟨t, q⟩ := (show ∃ t, u = Value.float y t from rx); cases q; exact PySem.W.kia_tup PySem.W.kitx_float I.kIn True.intro ho e (fun z => nomatch z) h
  | @lst a xs ea =>
    cases (show u = Value.ref a from rx)
    obtain ⟨_, _, n, _, h1⟩ := (show ObjOk X.prog X.w H s.heap a (.lst xs) from I.hok a _ ea)
    exact PySem.W.kia_tup PySem.W.kitx_list I.kIn ⟨_, h1, rfl⟩ ho e (fun z => nomatch z) h
  | @frz a ob xs ea =>
    cases (show u = Value.ref a from rx)
    obtain ⟨_, _, _, n, _, h1⟩ := (show ObjOk X.prog X.w H s.heap a (.frz ob (.lst xs)) from I.hok a _ ea)
    exact PySem.W.kia_tup PySem.W.kitx_list I.kIn ⟨_, h1, rfl⟩ ho e (fun z => nomatch z) h
  | @tup a xs ea =>
    cases (show u = Value.ref a from rx)
    obtain ⟨_, _, _, p⟩ := (show ObjOk X.prog X.w H s.heap a (.tup xs) from I.hok a _ ea)
    obtain ⟨o, h1, h2, _⟩ := p
    exact PySem.W.kia_tup PySem.W.kitx_tuple I.kIn ⟨o, h1, h2⟩ ho e (fun z => nomatch z) h
  | @dK a kvs ea =>
    cases (show u = Value.ref a from rx)
    obtain ⟨_, _, vs, _, p⟩ := (show ObjOk X.prog X.w H s.heap a (.dK kvs) from I.hok a _ ea)
    obtain ⟨o, es, ep, h1, h2, _⟩ := p
    exact PySem.W.kia_tup PySem.W.kitx_dict I.kIn ⟨o, h1, h2.1⟩ ho e (fun z => nomatch z) h
  | @dT a kvs ea =>
    cases (show u = Value.ref a from rx)
    obtain ⟨_, _, xs, _, o, es, ep, h1, h2, _⟩ := (show ObjOk X.prog X.w H s.heap a (.dT kvs) from I.hok a _ ea)
    exact PySem.W.kia_tup PySem.W.kitx_dict I.kIn ⟨o, h1, h2.1⟩ ho e (fun z => nomatch z) h
  | @ins a C dx fs ea cl ha hn htk hm =>
    cases (show u = Value.ref a from rx)
    obtain ⟨mA, O, _⟩ := ins_get I.hok ea
    obtain ⟨od, J, _⟩ := O.look
    exact PySem.W.kia_tup (PySem.W.kitx_own (cl.get _) cl.hd ha hn htk hm) I.kIn J ho e (fun z => nomatch z) h
inductive I_r_call_isinstT (K : PySem.W.Frag) (xs : List V) (H : Hp) (Q : VK) : Prop
  | mk (x : _) (q : _) (n1 : _) (n2 : _) (t : _) (b : _) (q0 : xs = [x, .ref q]) (q1 : H q = some (.tup [.ty n1, .ty n2])) (q2 : TyOf K H x t) (q3 : PySem.W.kitAny K t [.type n1, .type n2] = some b) (q4 : Q (.bl b) H) : I_r_call_isinstT K xs H Q
noncomputable def r_call_isinstT (K : PySem.W.Frag) : List V → Hp → VK → Prop := fun xs H Q => I_r_call_isinstT K xs H Q
theorem call_isinstT : CallR X (.builtin "isinstance") (r_call_isinstT X.K) := by
  intro pins s σ H xs us Q I r h
  obtain ⟨x, q0, n1, n2, t, b, rfl, hq, ty, e, q⟩ := h
  obtain ⟨u, w', rfl, r1, r2⟩ := vals2 r
  cases r2
  exact isinst_tup I r1 ty hq e fun tk => ⟨.bl b, H, I.tok _, rfl, q⟩
end
end L2

set_option linter.all false
set_option maxRecDepth 100000
set_option Elab.async false
set_option maxHeartbeats 8000000
namespace L2
open PySem PySem.Spec PyProof.Rows
theorem pe_bmK {X : Cx} {K : PySem.W.Frag} {o e : Expr} {es : List Expr} {to : TE} {t : TA} {name : Str} {apos cpos : Pos} {T id : String} {r : V → List V → Hp → VK → Prop} (pa : PlainAttrs T) (slot : Slot T name id) (hty : typeOf (.builtin id) = pure (.type "method_descriptor")) (hm : MtR X id r) (ho : PE X o to) (ha : PA X (e :: es) t) (hK : X.K = K := by rfl)
    (hbase : attributeBase o name X.env (eval o X.env) = eval o X.env := by rfl)
    (hfew : ((backTo cpos (starEach (e :: es) X.env)).all (fun x => !x.1) && (backToKw cpos (keywordEach [] X.env)).all (fun x => x.1.isSome)
      && decide ((e :: es).length + ([] : List Keyword).length + (if ([] : List Keyword).isEmpty then 0 else 1) < 30)) = true := by rfl)
    (hline : (apos.endLine == cpos.line) = true := by rfl) (hs : starEach (e :: es) X.env = (false, eval e X.env) :: starEach es X.env := by rfl) (hplain : (backTo cpos (starEach es X.env)).any (·.1) = false := by rfl) :
    PE X (.Call (.Attribute o name apos) (e :: es) [] cpos) (tBM K T r to t) := by
  subst hK
  exact pe_bm pa slot hty hm ho ha hbase hfew hline hs hplain
theorem strsAre_of : ∀ {ss : List Str} {us : List Value}, Vals (ss.map V.str) us → StrsAre us ss
  | [], _, r => by rw [List.map_nil] at r; cases r; exact .nil
  | s :: ss, _, r => by
    rw [List.map_cons] at r
    cases r with
    | cons r1 r2 =>
      obtain ⟨t, e⟩ := r1
      subst e
      exact .cons s t (strsAre_of r2)
theorem vals_of_strs : ∀ {us : List Value} {ns : List Str}, StrsAre us ns → Vals (ns.map V.str) us
  | _, _, .nil => .nil
  | _, _, .cons i t r => .cons ⟨t, rfl⟩ (vals_of_strs r)
inductive I_r_call_sortedS (K : PySem.W.Frag) (xs : List V) (H : Hp) (Q : VK) : Prop
  | mk (p : Addr) (ns : List Str) (q0 : xs = [.ref p]) (q1 : SqL K H p (ns.map V.str)) (q2 : ns.length < 64) (q3 : ∀ (l : Addr) (ms : List Str), H l = none → ms.Perm ns → sortedS ms = true → Q (.ref l) (upd H l (.lst (ms.map V.str)))) : I_r_call_sortedS K xs H Q
noncomputable def r_call_sortedS (K : PySem.W.Frag) : List V → Hp → VK → Prop := fun xs H Q => I_r_call_sortedS K xs H Q
theorem call_sortedS {X : Cx} : CallR X (.builtin "sorted") (r_call_sortedS X.K) := by
  intro pins s σ H xs us Q I r h
  obtain ⟨p, ns, rfl, hx, h64, q⟩ := h
  obtain ⟨u, rfl, ru⟩ := vals1 r
  cases ru
  obtain ⟨its, rv, pl, _⟩ := I.list hx
  have hi : StrsAre its ns := strsAre_of rv
  have hlen := rv.length
  rw [List.length_map] at hlen
  refine sorted_strs pl.isList hi (by first | lia | omega) fun out ms hI hp hs => ?_
  have hk : ∀ b o, s.heap.get? b = some o → (sortedAll s.heap its out).get? b = some o := fun b o e => sortedAll_old e
  obtain ⟨e, he⟩ := sortedAll_at s.heap its out
  have hn : H (s.heap.objs.size + 1) = none := I.hok.fresh (Nat.le_succ _)
  have hms := hp.length_eq
  have hv : Vals (ms.map V.str) out.toList := vals_of_strs hI
  refine ⟨.ref (s.heap.objs.size + 1), _, I.laid (t' := s.toks) (o := .lst (ms.map V.str)) hk (Nat.le_succ _) ⟨sizeLine_big (by rw [List.length_map]; first | lia | omega), out.toList, e, hv, by rw [he] <;> rfl⟩, rfl, q _ ms hn hp hs⟩
end L2

set_option linter.all false
set_option maxRecDepth 100000
set_option Elab.async false
set_option maxHeartbeats 4000000
namespace L2
open PySem PyProof.Rows
noncomputable def SetTab (w : World) (es : Array (Int × Value)) (t : SetTable) : Prop := t.led = !w.params.followText "set-order" ∧ (es.size = 0 ∨ t.plain = false)
noncomputable def SetP (prog : Program) (w : World) (h : Heap) (a : Addr) (S : Str → Bool) (n : Nat) : Prop :=
  ∃ o es ep t, h.get? a = some o ∧ o.ExactSet ∧ o.data = .set es ep t ∧ ElemsOf (PySem.strKind prog w) es.toList ∧ (∀ k, S k = true ↔ ∃ e ∈ es.toList, (PySem.strKind prog w).is k e.2 = true)
    ∧ es.size < scanBound ∧ t.fits es.size = true ∧ es.size = n ∧ SetTab w es t
theorem SetP.at {prog : Program} {w : World} {h h' : Heap} {a : Addr} {S : Str → Bool} {n : Nat} (x : SetP prog w h a S n) (e : ∀ o, h.get? a = some o → h'.get? a = some o) : SetP prog w h' a S n := by
  obtain ⟨o, es, ep, t, h1, r⟩ := x
  exact ⟨o, es, ep, t, e o h1, r⟩
theorem SetP.congr {prog : Program} {w : World} {h : Heap} {a : Addr} {S S' : Str → Bool} {n n' : Nat} (x : SetP prog w h a S n) (e : ∀ k, S k = S' k) (en : n = n') : SetP prog w h a S' n' := by
  have e' : S = S' := funext e
  subst e' en
  exact x
theorem orStandIn_led (t : SetTable) (n : Nat) : (t.orStandIn n).led = t.led := by
  unfold SetTable.orStandIn
  split <;> rfl
theorem layNew_led (t : SetTable) (es : Array (Int × Value)) (h : Int) (x : Value) : (layNew t es h x).2.1.led = t.led := by
  unfold layNew
  split
  · exact orStandIn_led _ _
  · rfl
theorem relayAll_kept (t : SetTable) (es : Array (Int × Value)) (n : Nat) (hp : t.plain = false) : (relayAll t es n).2.1.led = t.led ∧ (relayAll t es n).2.1.plain = false := by
  unfold relayAll
  split
  · next t' ord e =>
    dsimp only
    split
    · dsimp only
      unfold SetTable.relaid SetTable.laid at e
      cases hL : SetTable.layClean (SetTable.sizeAbove n - 1) (es.map (·.1)) with
      | none => rw [hL] at e; cases e
      | some ow =>
        rw [hL] at e
        cases e
        exact ⟨rfl, hp⟩
    · exact ⟨rfl, rfl⟩
  · exact ⟨rfl, rfl⟩
theorem SetP.stored {prog : Program} {w : World} {h : Heap} {a : Addr} {o : Obj} {es : Array (Int × Value)} {ep : Nat} {t : SetTable} (ho : h.get? a = some o) (hex : o.ExactSet) (hd : o.data = .set es ep t)
    {es' : Array (Int × Value)} {t' : SetTable} {S' : Str → Bool} (hel : ElemsOf (PySem.strKind prog w) es'.toList) (hmem : ∀ k, S' k = true ↔ ∃ e ∈ es'.toList, (PySem.strKind prog w).is k e.2 = true) (hb : es'.size < scanBound) (hf : t'.fits es'.size = true) (hT : SetTab w es' t') :
    (h.update a (Obj.putSet es' t')).get? a = some { o with data := .set es' (ep + 1) t' } ∧ SetP prog w (h.update a (Obj.putSet es' t')) a S' es'.size := by
  obtain ⟨hg, _⟩ := SetOf_store (knd := PySem.strKind prog w) (S' := S') ho hex hd hel hmem hb hf
  exact ⟨hg, _, es', ep + 1, t', hg, hex, rfl, hel, hmem, hb, hf, rfl, hT⟩
theorem add_P {prog : Program} {w : World} {A : Around} {E : Value → Shared → Prop} {s : Shared} {a : Addr} {S : Str → Bool} {n : Nat} {k : Str} {tk : Tok} {Q : Bool → Shared → Prop} (hS : SetP prog w s.heap a S n) (hroom : n + 1 < scanBound)
    (h : ∀ h', Heap.SameBut a s.heap h' → SetP prog w h' a (fun k' => S k' || decide (k' = k)) (if S k then n else n + 1) → Q (!S k) { s with heap := h' }) :
    wpAny (model prog w) A (setAddHashed a (.str k tk) ((PySem.strKind prog w).hash k)) Q E s := by
  have hkey := strKind_is prog w k tk
  obtain ⟨o, es, ep, t, ho, hex, hd, hel, hmem, hb, hf, hn, hTab⟩ := hS
  have hbS : es.size + 1 < scanBound := by rw [hn]; exact hroom
  unfold setAddHashed setAddHashedIn
  refine wpAny_holding (wpAny_bind (wpAny_setState_of ho hd hf ?_))
  dsimp only
  rw [byScan_of (x := Value.str k tk) rfl hb hel, if_pos rfl]
  unfold setAddByScan
  refine wpAny_bind (wpAny_bind (wpAny_rule (wpAny_bind (wpAny_setScan_of hkey ho hd hf hel ?_))))
  cases hr : List.findIdx? (fun e => (PySem.strKind prog w).is k e.2) es.toList with
  | some j =>
    dsimp only
    obtain ⟨hj, hpj, _⟩ := List.findIdx?_eq_some_iff_getElem.mp hr
    have hSk : S k = true := (hmem k).mpr ⟨es.toList[j], List.getElem_mem hj, hpj⟩
    refine wpAny_pure (wpAny_pure ?_)
    have q := h s.heap (Heap.SameBut.refl a s.heap) ⟨o, es, ep, t, ho, hex, hd, hel, fun z => by
      rw [Bool.or_eq_true, decide_eq_true_eq, ← hmem z]
      exact ⟨fun hz => hz.elim id (fun e => e ▸ hSk), .inl⟩, hb, hf, by rw [hSk]; exact hn, hTab⟩
    rw [hSk] at q
    exact q
  | none =>
    dsimp only
    have hSk : S k = false := by
      cases hz : S k with
      | false => rfl
      | true =>
        obtain ⟨e, he, hp⟩ := (hmem k).mp hz
        have z := List.findIdx?_eq_none_iff.mp hr e he
        rw [hp] at z
        exact Bool.noConfusion z
    have hperm := layNew_perm t es ((PySem.strKind prog w).hash k) (Value.str k tk)
    have hfits := layNew_fits t es ((PySem.strKind prog w).hash k) (Value.str k tk)
    have hled := layNew_led t es ((PySem.strKind prog w).hash k) (Value.str k tk)
    generalize hL : layNew t es ((PySem.strKind prog w).hash k) (Value.str k tk) = L at hperm hfits hled ⊢
    obtain ⟨es1, t1, wasD, gave⟩ := L
    dsimp only at hperm hfits hled ⊢
    rw [Array.toList_push] at hperm
    have hel1 : ElemsOf (PySem.strKind prog w) es1.toList := (hel.push hkey rfl).perm hperm
    have hmem1 := mem_push_iff hkey hmem hperm
    have hsz1 : es1.size = n + 1 := by rw [← Array.length_toList, hperm.length_eq, List.length_append, Array.length_toList, hn]; rfl
    have hb1 : es1.size < scanBound := by rw [hsz1]; exact hroom
    have gw : ∀ (b : Bool) {s₁ : Shared} {Q' : Unit → Shared → Prop}, Q' () s₁ → wpAny (model prog w) A (match b with | true => rule "set.scan.the-table-gave-way" | false => pure ()) Q' E s₁ := fun b s₁ Q' hq => by cases b <;> first | exact wpAny_pure hq | exact wpAny_rule hq
    have hend : ∀ h', Heap.SameBut a s.heap h' → SetP prog w h' a (fun k' => S k' || decide (k' = k)) es1.size → Q true { s with heap := h' } := fun h' x1 x2 => by
      have q := h h' x1
      rw [hSk] at q
      rw [hsz1] at x2
      exact q x2
    -- behind the place: the table is plain no more
    have tail : ∀ t2 : SetTable, t2.led = t.led → t2.plain = false → t2.fits es1.size = true →
        wpAny (model prog w) A (do
          storeSet a es1 t2
          if (!wasD && t2.tooFull) = true then do
              (match (relayAll t2 es1 (SetTable.grown es1.size)).2.2 with | true => rule "set.scan.the-table-gave-way" | false => pure ())
              storeSet a (relayAll t2 es1 (SetTable.grown es1.size)).1 (relayAll t2 es1 (SetTable.grown es1.size)).2.1
              pure (some true)
            else pure (some true)) (fun r s' => wpAny (model prog w) A (match r with | some added => pure added | none => setAddHashedIn a (.str k tk) ((PySem.strKind prog w).hash k) 99999) Q E s') E s := by
      intro t2 l2 p2 f2
      refine wpAny_bind (wpAny_storeSet_of ho hd ?_ (fits_of_scanBound hb1))
      obtain ⟨ho1, hS1⟩ := SetP.stored (prog := prog) (w := w) ho hex hd hel1 hmem1 hb1 f2 ⟨by rw [l2]; exact hTab.1, .inr p2⟩
      have sb1 := Heap.SameBut.update s.heap a (Obj.putSet es1 t2)
      split
      · have hp := relayAll_perm t2 es1 (SetTable.grown es1.size)
        have hfr := relayAll_fits t2 es1 (SetTable.grown es1.size)
        obtain ⟨rl, rp⟩ := relayAll_kept t2 es1 (SetTable.grown es1.size) p2
        generalize relayAll t2 es1 (SetTable.grown es1.size) = R at hp hfr rl rp ⊢
        obtain ⟨es2, t3, g2⟩ := R
        dsimp only at hp hfr rl rp ⊢
        have hel2 : ElemsOf (PySem.strKind prog w) es2.toList := hel1.perm hp
        have hmem2 : ∀ z, (S z || decide (z = k)) = true ↔ ∃ e ∈ es2.toList, (PySem.strKind prog w).is z e.2 = true := fun z => (hmem1 z).trans ⟨fun ⟨e, he, q⟩ => ⟨e, hp.mem_iff.mpr he, q⟩, fun ⟨e, he, q⟩ => ⟨e, hp.mem_iff.mp he, q⟩⟩
        have hsz2 : es2.size = es1.size := by rw [← Array.length_toList, hp.length_eq, Array.length_toList]
        have hb2 : es2.size < scanBound := by rw [hsz2]; exact hb1
        refine wpAny_bind (gw _ (wpAny_bind (wpAny_storeSet_of ho1 rfl ?_ (fits_of_scanBound hb2))))
        obtain ⟨_, hS2⟩ := SetP.stored (prog := prog) (w := w) ho1 hex rfl hel2 hmem2 hb2 hfr ⟨by rw [rl, l2]; exact hTab.1, .inr rp⟩
        rw [hsz2] at hS2
        exact wpAny_pure (wpAny_pure (hend _ (sb1.trans (Heap.SameBut.update _ a _)) hS2))
      · exact wpAny_pure (wpAny_pure (hend _ sb1 hS1))
    refine wpAny_bind (gw _ ?_)
    split
    · next hpl =>
      rw [hashByValue_scannable 8 (x := Value.str k tk) rfl]
      refine wpAny_bind (wpAny_pure ?_)
      exact tail { t1 with plain := false } hled rfl (SetTable.fits_plain_off hfits)
    · next hpl =>
      refine wpAny_bind (wpAny_pure ?_)
      exact tail t1 hled (by simpa using hpl) hfits
end L2

set_option linter.all false
set_option maxRecDepth 100000
set_option Elab.async false
set_option maxHeartbeats 4000000
namespace L2
open PySem PyProof.Rows
theorem tuple_push {h : Heap} {a : Addr} {items : Array Value} (x : h.IsTuple a items) (o : Obj) : (h.push o).IsTuple a items := by
  obtain ⟨u, hu, r⟩ := x
  exact ⟨u, Heap.get?_push_of_some o hu, r⟩
theorem loop_P {prog : Program} {w : World} {A : Around} {R : Result → Shared → Prop} {I : Addr} {fp wr : List Addr} {G : Array GenState → Array GenState → Prop} {n : Nat} {P : Nat → Value → Prop} {St : Nat → Shared → Prop}
    (W : WalksS prog w A.in1 I fp wr G n P St) (S : Addr) (hSf : ¬ S ∈ fp) (val : Nat → Str) (hval : ∀ (i : Nat) (v : Value), P i v → ∃ t, v = Value.str (val i) t) (hb : n + 1 < scanBound) :
    ∀ (k i : Nat) (s : Shared), n - i = k → i ≤ n → St i s → SetP prog w s.heap S (fun k' => (metS val i).any fun x => x == k') (metS val i).length →
      (∀ s' : Shared, Moved (S :: wr) G s s' → SetP prog w s'.heap S (fun k' => (metS val n).any fun x => x == k') (metS val n).length → R (Except.ok (Flow.ret Value.none)) s') →
      codeAny (model prog w) A (Code.builtin "set.update.loop" { pos := [Value.ref S, Value.ref I] }) R s := by
  have hSw : ¬ S ∈ wr := fun h => hSf (W.sub S h)
  have hsub : ∀ b, b ∈ wr → b ∈ S :: wr := fun b hb => List.mem_cons_of_mem S hb
  intro k
  induction k with
  | zero =>
    intro i s hk hi hst hS hR
    have hin : i = n := by first | lia | omega
    subst hin
    refine codeAny_builtin PyProof.Rows.F.entry_set_update_loop ?_
    rw [Around.under_plainId PyProof.Rows.F.plain_set_update_loop]
    refine wpAny_bind (W.done s _ _ hst fun s' hm => ?_)
    refine wpAny_pure (hR s' (Moved.mono hm hsub) ?_)
    exact hS.at fun o ho => hm.heap S o hSw ho
  | succ k ih =>
    intro i s hk hi hst hS hR
    have hlt : i < n := by first | lia | omega
    refine codeAny_builtin PyProof.Rows.F.entry_set_update_loop ?_
    rw [Around.under_plainId PyProof.Rows.F.plain_set_update_loop]
    refine wpAny_bind (W.item i s _ _ hlt hst fun v s' hP hst' hm => ?_)
    obtain ⟨t, rfl⟩ := hval i v hP
    have hS' : SetP prog w s'.heap S (fun k' => (metS val i).any fun x => x == k') (metS val i).length := by
      exact hS.at fun o ho => hm.heap S o hSw ho
    have hroom : (metS val i).length + 1 < scanBound := by
      have := metS_le val i
      first | lia | omega
    refine wpAny_bind (wpAny_holding (wpAny_holding (wpAny_bind ((PySem.strKind prog w).pyHash (strKind_is prog w (val i) t) ?_))))
    refine add_P hS' hroom fun h' hsb hS2 => ?_
    refine wpAny_pure ⟨plainId_quiet PyProof.Rows.F.plain_set_update_loop _, ?_⟩
    refine ih (i + 1) _ (by first | lia | omega) hlt (W.frame (i + 1) s' h' _ hst' (Nat.le_succ s'.toks) fun b hb o e => ?_) ?_ fun s'' hm'' hS'' => ?_
    · rw [hsb.right b fun h => hSf (h ▸ hb)]
      exact e
    · refine hS2.congr (fun k' => ?_) ?_
      · show _ = ((stepS _ _).any _)
        rw [stepS_any]
      · show _ = (stepS _ _).length
        rw [stepS_length]
    · refine hR s'' (Moved.trans W.gtrans (Moved.then_heap (Moved.mono hm hsub) (Nat.le_succ s'.toks) fun b o hb e => ?_) hm'') hS''
      rw [hsb.right b fun h => hb (h ▸ List.mem_cons_self)]
      exact e
theorem new_P {prog : Program} {w : World} {A : Around} {E : Value → Shared → Prop} {s : Shared} (a : Value) {Q₁ : Value → Shared → Prop}
    (h : Q₁ (.ref s.heap.objs.size) { s with heap := s.heap.push { cls := .type "set", dict := none, data := .set #[] 0 (.fresh 0 0 (!w.params.followText "set-order")) } }) :
    codeAny (model prog w) A (.call (.builtin "set.__new__") ⟨[.type "set", a], []⟩) (wants Q₁ E) s := by
  apply codeAny_of_tree
  show wpAny (model prog w) A.in1 (checkBuiltinCall "set.__new__" ⟨[.type "set", a], []⟩ >>= fun _ => again (.builtin "set.__new__" ⟨[.type "set", a], []⟩)) _ _ s
  apply wpAny_bind
  refine wpAny_of_eq (F.newCall_set_1 a) (wpAny_pure ⟨plainId_quiet F.plain_set_new _, ?_⟩)
  apply codeAny_builtin F.entry_set_new
  rw [Around.under_plainId F.plain_set_new]
  unfold Builtin.«set.__new__» Builtin.Frozenset.newClass
  have hself := sub_set_self
  obtain ⟨hp, gs, dr, tk, os⟩ := s
  dsimp only
  wp_walk
  apply wpAny_askSetting
  apply wpAny_pure
  dsimp only
  simp only [newObj]
  apply wpAny_bind
  apply wpAny_alloc
  exact wpAny_pure (wpAny_pure h)
theorem call_set_PL {prog : Program} {w : World} {A : Around} {E : Value → Shared → Prop} {s : Shared} {l : Addr} {items : Array Value} {val : Nat → Str} {Q : Value → Shared → Prop} (hh : A.handled = none) (hl : s.heap.IsList l items)
    (hi : ∀ (i : Nat) (v : Value), items[i]? = some v → ∃ t, v = Value.str (val i) t) (hb : items.size + 1 < scanBound)
    (h : ∀ (h' : Heap) (tk : Nat), SetP prog w h' s.heap.objs.size (fun k' => (metS val items.size).any fun x => x == k') (metS val items.size).length →
      (∀ (b : Nat) (o : Obj), b < s.heap.objs.size → s.heap.get? b = some o → h'.get? b = some o) → Q (Value.ref s.heap.objs.size) { s with heap := h', toks := tk }) :
    wpAny (model prog w) A (call (Value.type "set") [Value.ref l]) Q E s := by
  obtain ⟨c, tl, hmro⟩ := F.called_set.mro
  have hmade := F.called_set.made
  have hsub := F.called_set.sub
  have hct := F.typeCall_set_1 (Value.ref l)
  refine wpAny_call (codeAny_of_tree (wpAny_pure ⟨Code.quiet_builtin _ (by decide +kernel), codeAny_builtin F.entry_type_call ?_⟩))
  rw [Around.under_plain (weight_type_call_type "set" [Value.ref l] []) rfl]
  unfold Builtin.«type.__call__»
  dsimp only
  refine wpAny_ite_false (by first | rfl | decide +kernel) ?_
  refine wpAny_ite_false (by first | rfl | decide +kernel) ?_
  refine wpAny_bind (wpAny_of_eq hct ?_)
  refine wpAny_bind (wpAny_of_eq hmro ?_)
  refine wpAny_ite_false (by first | rfl | decide +kernel) ?_
  refine wpAny_bind (wpAny_of_eq hmade ?_)
  refine wpAny_bind (wpAny_pure ?_)
  refine wpAny_bind (wpAny_holding (wpAny_call (codeAny_mono (new_P (Q₁ := fun obj s₁ => ∃ led, led = (!w.params.followText "set-order") ∧ obj = Value.ref s.heap.objs.size ∧ s₁ = { s with heap := s.heap.push { cls := Value.type "set", data := Data.set #[] 0 (SetTable.fresh 0 0 led) } }) (E := E) (Value.ref l) ⟨_, rfl, rfl, rfl⟩) fun r s₁ hr => ?_)))
  cases r with
  | error e => exact hr
  | ok fl =>
    cases fl with
    | next => exact hr.elim
    | brk => exact hr.elim
    | cont => exact hr.elim
    | ret v =>
      obtain ⟨led, hled, rfl, rfl⟩ := hr
      have hS := Heap.get?_push_size s.heap (o := { cls := Value.type "set", data := Data.set #[] 0 (SetTable.fresh 0 0 led) }) rfl
      have hT : Shared.TypeIs { s with heap := s.heap.push { cls := Value.type "set", data := Data.set #[] 0 (SetTable.fresh 0 0 led) } } (Value.ref s.heap.objs.size) "set" := ⟨_, hS, rfl⟩
      have hli := F.called_set.init.lookup
      have hbi := F.called_set.init.bind (Value.ref s.heap.objs.size)
      obtain ⟨ol, hol, hcl, nl, hdl⟩ := hl
      have hol' := Heap.get?_push_of_some { cls := Value.type "set", data := Data.set #[] 0 (SetTable.fresh 0 0 led) } hol
      have hl1 : Heap.IsList (s.heap.push { cls := Value.type "set", data := Data.set #[] 0 (SetTable.fresh 0 0 led) }) l items := ⟨ol, hol', hcl, nl, hdl⟩
      refine wpAny_bind (wpAny_isInstance hT hsub ?_)
      refine wpAny_ite_false (by first | rfl | decide +kernel) ?_
      refine wpAny_bind (wpAny_holding ?_)
      unfold callSpecial?
      refine wpAny_bind (wpAny_specialOf hT hli ?_)
      dsimp only
      refine wpAny_holding ?_
      refine wpAny_bind (wpAny_of_eq hbi ?_)
      refine wpAny_bind (wpAny_call (codeAny_mono (codeAny_call_builtin F.called_set.init.plain F.entry_set_init (R := fun r s' => match r with | .ok (.ret v) => v = .none ∧ Q (.ref s.heap.objs.size) s' | _ => False) (check_set_init_1 hT ?_)) fun r s₁ hr => ?_))
      · unfold Builtin.«set.__init__»
        refine wpAny_bind (wpAny_ite_true (by first | rfl | decide +kernel) (wpAny_pure ?_))
        refine wpAny_bind (wpAny_bind (wpAny_bind (wpAny_typeOf hT (wpAny_ite_false (by first | rfl | decide +kernel) (wpAny_pure ?_)))))
        refine wpAny_pure ?_
        refine wpAny_bind ?_
        unfold checkCount
        refine wpAny_ite_false (by first | rfl | decide +kernel) ?_
        refine wpAny_ite_false (by first | rfl | decide +kernel) ?_
        refine wpAny_ite_false (by first | rfl | decide +kernel) (wpAny_pure ?_)
        refine wpAny_bind (wpAny_pure ?_)
        refine wpAny_bind ?_
        unfold setUsed setState
        refine wpAny_bind (wpAny_bind (wpAny_load' hS ?_))
        dsimp only
        refine wpAny_ite_false (by first | rfl | decide +kernel) (wpAny_pure ?_)
        refine wpAny_pure ?_
        refine wpAny_ite_false (by first | rfl | decide +kernel) ?_
        show wpAny _ _ (do let __r ← Builtin.Frozenset.updateFrom "set.__init__" s.heap.objs.size (Value.ref l); ret Value.none) _ _ _
        refine wpAny_bind ?_
        unfold Builtin.Frozenset.updateFrom
        refine wpAny_bind ?_
        have hTl : Shared.TypeIs { s with heap := s.heap.push { cls := Value.type "set", data := Data.set #[] 0 (SetTable.fresh 0 0 led) } } (Value.ref l) "list" := ⟨ol, hol', hcl⟩
        unfold Builtin.Frozenset.isAnySet
        refine wpAny_bind (wpAny_isInstance hTl F.sub_list_set ?_)
        refine wpAny_isInstance hTl F.sub_list_frozenset ?_
        refine wpAny_ite_false (by first | rfl | decide +kernel) ?_
        refine wpAny_bind (wpAny_typeOf hTl ?_)
        refine wpAny_ite_false (by first | rfl | decide +kernel) ?_
        refine wpAny_bind (wpAny_pyIter_list hl1 ?_)
        refine wpAny_bind (wpAny_runValue ?_)
        have hlS : l < s.heap.objs.size := Heap.lt_size hol
        have hsz : (s.heap.push { cls := Value.type "set", data := Data.set #[] 0 (SetTable.fresh 0 0 led) }).objs.size = s.heap.objs.size + 1 := Heap.size_push _ _
        have hneI : l ≠ (s.heap.push { cls := Value.type "set", data := Data.set #[] 0 (SetTable.fresh 0 0 led) }).objs.size := by rw [hsz]; exact Nat.ne_of_lt (Nat.lt_succ_of_lt hlS)
        have hSf : ¬ s.heap.objs.size ∈ [(s.heap.push { cls := Value.type "set", data := Data.set #[] 0 (SetTable.fresh 0 0 led) }).objs.size, l] := by
          rw [hsz]
          simp only [List.mem_cons, List.not_mem_nil, or_false, not_or]
          exact ⟨Nat.ne_of_lt (Nat.lt_succ_self _), Nat.ne_of_gt hlS⟩
        have hh3 : A.in1.in1.in1.handled = none := hh
        refine loop_P (Walks.toS (Walks.list hh3 _ l hneI items)) s.heap.objs.size hSf val hi hb (items.size - 0) 0 _ rfl (Nat.zero_le _) ⟨⟨_, Heap.get?_push_size _ rfl, rfl, rfl⟩, Heap.IsList.push hl1 _⟩ ?_ ?_
        · have hget := Heap.get?_push_of_some { cls := Value.type "list_iterator", data := Data.fields #[Value.ref l, Value.int 0 0] } hS
          exact ⟨_, #[], 0, _, hget, ⟨rfl, rfl, rfl⟩, rfl, (fun e he => by simp at he), (fun k => by show (false = true) ↔ _; simp), (by decide), rfl, rfl, hled, .inl rfl⟩
        · rintro ⟨h', g', d', tk', os'⟩ hm hS'
          refine wpAny_pure (wpAny_pure ⟨rfl, ?_⟩)
          have e1 := hm.gens
          have e2 := hm.drawn
          have e3 := hm.os
          dsimp only at e1 e2 e3
          subst e1 e2 e3
          refine h h' tk' hS' fun b o hb e => hm.heap b o ?_ ?_
          · simp only [List.mem_cons, List.not_mem_nil, or_false, not_or]
            rw [hsz]
            exact ⟨Nat.ne_of_lt hb, Nat.ne_of_lt (Nat.lt_succ_of_lt hb)⟩
          · exact Heap.get?_push_of_some _ (Heap.get?_push_of_some _ e)
      · cases r with
        | error e => exact hr.elim
        | ok fl =>
          cases fl with
          | next => exact hr.elim
          | brk => exact hr.elim
          | cont => exact hr.elim
          | ret v =>
            obtain ⟨rfl, q⟩ := hr
            refine wpAny_pure ?_
            refine wpAny_ite_false (by first | rfl | decide +kernel) ?_
            exact wpAny_pure q
theorem call_set_PT {prog : Program} {w : World} {A : Around} {E : Value → Shared → Prop} {s : Shared} {l : Addr} {items : Array Value} {val : Nat → Str} {Q : Value → Shared → Prop} (hh : A.handled = none) (hl : s.heap.IsTuple l items)
    (hi : ∀ (i : Nat) (v : Value), items[i]? = some v → ∃ t, v = Value.str (val i) t) (hb : items.size + 1 < scanBound)
    (h : ∀ (h' : Heap) (tk : Nat), SetP prog w h' s.heap.objs.size (fun k' => (metS val items.size).any fun x => x == k') (metS val items.size).length →
      (∀ (b : Nat) (o : Obj), b < s.heap.objs.size → s.heap.get? b = some o → h'.get? b = some o) → Q (Value.ref s.heap.objs.size) { s with heap := h', toks := tk }) :
    wpAny (model prog w) A (call (Value.type "set") [Value.ref l]) Q E s := by
  obtain ⟨c, tl, hmro⟩ := F.called_set.mro
  have hmade := F.called_set.made
  have hsub := F.called_set.sub
  have hct := F.typeCall_set_1 (Value.ref l)
  refine wpAny_call (codeAny_of_tree (wpAny_pure ⟨Code.quiet_builtin _ (by decide +kernel), codeAny_builtin F.entry_type_call ?_⟩))
  rw [Around.under_plain (weight_type_call_type "set" [Value.ref l] []) rfl]
  unfold Builtin.«type.__call__»
  dsimp only
  refine wpAny_ite_false (by first | rfl | decide +kernel) ?_
  refine wpAny_ite_false (by first | rfl | decide +kernel) ?_
  refine wpAny_bind (wpAny_of_eq hct ?_)
  refine wpAny_bind (wpAny_of_eq hmro ?_)
  refine wpAny_ite_false (by first | rfl | decide +kernel) ?_
  refine wpAny_bind (wpAny_of_eq hmade ?_)
  refine wpAny_bind (wpAny_pure ?_)
  refine wpAny_bind (wpAny_holding (wpAny_call (codeAny_mono (new_P (Q₁ := fun obj s₁ => ∃ led, led = (!w.params.followText "set-order") ∧ obj = Value.ref s.heap.objs.size ∧ s₁ = { s with heap := s.heap.push { cls := Value.type "set", data := Data.set #[] 0 (SetTable.fresh 0 0 led) } }) (E := E) (Value.ref l) ⟨_, rfl, rfl, rfl⟩) fun r s₁ hr => ?_)))
  cases r with
  | error e => exact hr
  | ok fl =>
    cases fl with
    | next => exact hr.elim
    | brk => exact hr.elim
    | cont => exact hr.elim
    | ret v =>
      obtain ⟨led, hled, rfl, rfl⟩ := hr
      have hS := Heap.get?_push_size s.heap (o := { cls := Value.type "set", data := Data.set #[] 0 (SetTable.fresh 0 0 led) }) rfl
      have hT : Shared.TypeIs { s with heap := s.heap.push { cls := Value.type "set", data := Data.set #[] 0 (SetTable.fresh 0 0 led) } } (Value.ref s.heap.objs.size) "set" := ⟨_, hS, rfl⟩
      have hli := F.called_set.init.lookup
      have hbi := F.called_set.init.bind (Value.ref s.heap.objs.size)
      obtain ⟨ol, hol, hcl, nl, hdl⟩ := hl
      have hol' := Heap.get?_push_of_some { cls := Value.type "set", data := Data.set #[] 0 (SetTable.fresh 0 0 led) } hol
      have hl1 : Heap.IsTuple (s.heap.push { cls := Value.type "set", data := Data.set #[] 0 (SetTable.fresh 0 0 led) }) l items := ⟨ol, hol', hcl, nl, hdl⟩
      refine wpAny_bind (wpAny_isInstance hT hsub ?_)
      refine wpAny_ite_false (by first | rfl | decide +kernel) ?_
      refine wpAny_bind (wpAny_holding ?_)
      unfold callSpecial?
      refine wpAny_bind (wpAny_specialOf hT hli ?_)
      dsimp only
      refine wpAny_holding ?_
      refine wpAny_bind (wpAny_of_eq hbi ?_)
      refine wpAny_bind (wpAny_call (codeAny_mono (codeAny_call_builtin F.called_set.init.plain F.entry_set_init (R := fun r s' => match r with | .ok (.ret v) => v = .none ∧ Q (.ref s.heap.objs.size) s' | _ => False) (check_set_init_1 hT ?_)) fun r s₁ hr => ?_))
      · unfold Builtin.«set.__init__»
        refine wpAny_bind (wpAny_ite_true (by first | rfl | decide +kernel) (wpAny_pure ?_))
        refine wpAny_bind (wpAny_bind (wpAny_bind (wpAny_typeOf hT (wpAny_ite_false (by first | rfl | decide +kernel) (wpAny_pure ?_)))))
        refine wpAny_pure ?_
        refine wpAny_bind ?_
        unfold checkCount
        refine wpAny_ite_false (by first | rfl | decide +kernel) ?_
        refine wpAny_ite_false (by first | rfl | decide +kernel) ?_
        refine wpAny_ite_false (by first | rfl | decide +kernel) (wpAny_pure ?_)
        refine wpAny_bind (wpAny_pure ?_)
        refine wpAny_bind ?_
        unfold setUsed setState
        refine wpAny_bind (wpAny_bind (wpAny_load' hS ?_))
        dsimp only
        refine wpAny_ite_false (by first | rfl | decide +kernel) (wpAny_pure ?_)
        refine wpAny_pure ?_
        refine wpAny_ite_false (by first | rfl | decide +kernel) ?_
        show wpAny _ _ (do let __r ← Builtin.Frozenset.updateFrom "set.__init__" s.heap.objs.size (Value.ref l); ret Value.none) _ _ _
        refine wpAny_bind ?_
        unfold Builtin.Frozenset.updateFrom
        refine wpAny_bind ?_
        have hTl : Shared.TypeIs { s with heap := s.heap.push { cls := Value.type "set", data := Data.set #[] 0 (SetTable.fresh 0 0 led) } } (Value.ref l) "tuple" := ⟨ol, hol', hcl⟩
        unfold Builtin.Frozenset.isAnySet
        refine wpAny_bind (wpAny_isInstance hTl F.sub_tuple_set ?_)
        refine wpAny_isInstance hTl F.sub_tuple_frozenset ?_
        refine wpAny_ite_false (by first | rfl | decide +kernel) ?_
        refine wpAny_bind (wpAny_typeOf hTl ?_)
        refine wpAny_ite_false (by first | rfl | decide +kernel) ?_
        refine wpAny_bind (wpAny_pyIter_tuple hl1 ?_)
        refine wpAny_bind (wpAny_runValue ?_)
        have hlS : l < s.heap.objs.size := Heap.lt_size hol
        have hsz : (s.heap.push { cls := Value.type "set", data := Data.set #[] 0 (SetTable.fresh 0 0 led) }).objs.size = s.heap.objs.size + 1 := Heap.size_push _ _
        have hneI : l ≠ (s.heap.push { cls := Value.type "set", data := Data.set #[] 0 (SetTable.fresh 0 0 led) }).objs.size := by rw [hsz]; exact Nat.ne_of_lt (Nat.lt_succ_of_lt hlS)
        have hSf : ¬ s.heap.objs.size ∈ [(s.heap.push { cls := Value.type "set", data := Data.set #[] 0 (SetTable.fresh 0 0 led) }).objs.size, l] := by
          rw [hsz]
          simp only [List.mem_cons, List.not_mem_nil, or_false, not_or]
          exact ⟨Nat.ne_of_lt (Nat.lt_succ_self _), Nat.ne_of_gt hlS⟩
        have hh3 : A.in1.in1.in1.handled = none := hh
        refine loop_P (Walks.toS (Walks.tuple hh3 _ l hneI items)) s.heap.objs.size hSf val hi hb (items.size - 0) 0 _ rfl (Nat.zero_le _) ⟨⟨_, Heap.get?_push_size _ rfl, rfl, rfl⟩, tuple_push hl1 _⟩ ?_ ?_
        · have hget := Heap.get?_push_of_some { cls := Value.type "tuple_iterator", data := Data.fields #[Value.ref l, Value.int 0 0] } hS
          exact ⟨_, #[], 0, _, hget, ⟨rfl, rfl, rfl⟩, rfl, (fun e he => by simp at he), (fun k => by show (false = true) ↔ _; simp), (by decide), rfl, rfl, hled, .inl rfl⟩
        · rintro ⟨h', g', d', tk', os'⟩ hm hS'
          refine wpAny_pure (wpAny_pure ⟨rfl, ?_⟩)
          have e1 := hm.gens
          have e2 := hm.drawn
          have e3 := hm.os
          dsimp only at e1 e2 e3
          subst e1 e2 e3
          refine h h' tk' hS' fun b o hb e => hm.heap b o ?_ ?_
          · simp only [List.mem_cons, List.not_mem_nil, or_false, not_or]
            rw [hsz]
            exact ⟨Nat.ne_of_lt hb, Nat.ne_of_lt (Nat.lt_succ_of_lt hb)⟩
          · exact Heap.get?_push_of_some _ (Heap.get?_push_of_some _ e)
      · cases r with
        | error e => exact hr.elim
        | ok fl =>
          cases fl with
          | next => exact hr.elim
          | brk => exact hr.elim
          | cont => exact hr.elim
          | ret v =>
            obtain ⟨rfl, q⟩ := hr
            refine wpAny_pure ?_
            refine wpAny_ite_false (by first | rfl | decide +kernel) ?_
            exact wpAny_pure q
end L2

set_option linter.all false
set_option maxRecDepth 100000
set_option Elab.async false
set_option maxHeartbeats 4000000
namespace L2
open PySem PyProof.Rows
theorem erase_permL {α : Type} : ∀ (l : List α) (j : Nat) (y : α), l[j]? = some y → (y :: l.eraseIdx j).Perm l
  | [], j, y, h => by simp at h
  | x :: r, 0, y, h => by
    simp at h
    subst h
    simp
  | x :: r, j + 1, y, h => by
    simp at h
    rw [List.eraseIdx_cons_succ]
    exact (List.Perm.swap x y _).trans ((erase_permL r j y h).cons x)
theorem wp_draw {M : Model} {A : Around} {Q : Nat → Shared → Prop} {E : Value → Shared → Prop} {s : Shared} {src : Source} {n : Nat} (hn : n ≠ 0) (h : ∀ i d, i < n → Q i { s with drawn := d }) : wpAny M A (choose src n) Q E s :=
  fun _ _ _ => ⟨hn, h _ _ (Nat.mod_lt _ (Nat.pos_of_ne_zero hn))⟩
theorem draw_order {α : Type} {M : Model} {A : Around} {E : Value → Shared → Prop} : ∀ (n : Nat) (xs : List α) (s : Shared) (Q : List α → Shared → Prop), xs.length = n → (∀ ys d, ys.Perm xs → Q ys { s with drawn := d }) → wpAny M A (drawOrder n xs) Q E s := by
  intro n
  induction n with
  | zero =>
    intro xs s Q hl h
    obtain rfl : xs = [] := List.eq_nil_of_length_eq_zero hl
    exact wpAny_pure (h [] s.drawn (List.Perm.refl _))
  | succ n ih =>
    intro xs s Q hl h
    cases xs with
    | nil => simp at hl
    | cons x r =>
      unfold drawOrder
      refine wpAny_bind (wp_draw (by simp) fun i d hi => ?_)
      obtain ⟨y, hy⟩ : ∃ y, (x :: r)[i]? = some y := ⟨_, List.getElem?_eq_getElem hi⟩
      rw [hy]
      dsimp only
      refine wpAny_bind (ih _ _ _ (by rw [List.length_eraseIdx_of_lt hi]; simp at hl ⊢; exact hl) fun ys d' hp => wpAny_pure (h _ _ ((hp.cons y).trans (erase_permL _ i y hy))))
theorem slot_si_next : Slot "set_iterator" "__next__" "set_iterator.__next__" :=
  .of (owner := "set_iterator") (n := "__next__") (by rw [typeLookup_type, builtinLookup_eq_fast]; kernel_rfl) (by decide +kernel) (by decide +kernel) (by decide +kernel) (by first | exact .inl (by decide +kernel) | exact .inr (by decide +kernel)) (by rw [isSubtype_type]; kernel_rfl)
theorem slot_si_iter : Slot "set_iterator" "__iter__" "set_iterator.__iter__" :=
  .of (owner := "set_iterator") (n := "__iter__") (by rw [typeLookup_type, builtinLookup_eq_fast]; kernel_rfl) (by decide +kernel) (by decide +kernel) (by decide +kernel) (by first | exact .inl (by decide +kernel) | exact .inr (by decide +kernel)) (by rw [isSubtype_type]; kernel_rfl)
theorem entry_si_next : entryFor table "set_iterator.__next__" = some Builtin.«set_iterator.__next__» := entryFor_of_tree (by kernel_rfl)
theorem entry_si_iter : entryFor table "set_iterator.__iter__" = some Builtin.«dict_keyiterator.__iter__» := entryFor_alias (id' := "dict_keyiterator.__iter__") (by kernel_rfl) rfl (by decide +kernel) (by kernel_rfl)
theorem entry_set_iterF : entryFor table "set.__iter__" = some Builtin.«frozenset.__iter__» := entryFor_alias (id' := "frozenset.__iter__") (by kernel_rfl) rfl (by decide +kernel) (by kernel_rfl)
theorem owner_si : Manifest.owners.lookup (String.ofList ("set_iterator".toList.reverse).reverse) = some Manifest.sig_set_iterator := by kernel_rfl
theorem args_si_next (a : Value) : argsOk "set_iterator.__next__" ⟨[a], []⟩ := by
  unfold argsOk
  rw [signature?_of (id := "set_iterator.__next__") (n := "__next__".toList.reverse) (o := "set_iterator".toList.reverse) (by kernel_rfl) owner_si]
  kernel_rfl
theorem args_si_iter (a : Value) : argsOk "set_iterator.__iter__" ⟨[a], []⟩ := by
  unfold argsOk
  rw [signature?_of (id := "set_iterator.__iter__") (n := "__iter__".toList.reverse) (o := "set_iterator".toList.reverse) (by kernel_rfl) owner_si]
  kernel_rfl
noncomputable def siObj (first : Value) (i : Nat) (S : Addr) (n ep : Nat) : Obj := { cls := .type "set_iterator", dict := none, data := .fields #[first, .int i 0, .ref S, .int n 0, .int ep 0], slots := #[] }
section
variable {prog : Program} {w : World} {A : Around} {E : Value → Shared → Prop} {s : Shared} {I S T : Addr} {i m ep : Nat} {o ot : Obj} {es : Array (Int × Value)} {t : SetTable} {places : Array Value} {x : Value}
theorem raise_stop {M : Model} {B : Around} {E' : Value → Shared → Prop} {Q : Fin → Shared → Prop} {s : Shared} (hh : B.handled = none) (h : ∀ (e : Value) (h' : Heap), (∀ b u, s.heap.get? b = some u → h'.get? b = some u) → Shared.TypeIs { s with heap := h' } e "StopIteration" → E' e { s with heap := h' }) :
    wpAny M B (newExc (.type "StopIteration") [] >>= fun e => raiseNew e) Q E' s := by
  refine wpAny_bind ?_
  simp only [newExc, newTuple]
  apply wpAny_bind
  refine wpAny_newObj_type ?_ (by size_fits)
  apply wpAny_bind (m := firstArgMember _ _)
  refine wpAny_of_eq (a := Value.none) (by first | rfl | (simp only [firstArgMember]; rfl)) ?_
  refine wpAny_newObj_type (h := ?_) (by size_fits)
  simp only [raiseNew]
  refine wpAny_bind (wpAny_handled ?_)
  rw [hh]
  refine wpAny_bind (wpAny_pure (wpAny_throw (h (.ref _) _ (fun b u e => Heap.get?_push_of_some _ (Heap.get?_push_of_some _ e)) ⟨_, Heap.get?_push_size _ rfl, rfl⟩)))
theorem si_item_D (hI : s.heap.get? I = some (siObj (.ref T) i S es.size ep)) (hS : s.heap.get? S = some o) (hd : o.data = .set es ep t) (hf : t.fits es.size = true) (hT : s.heap.get? T = some ot) (hTd : ot.data = .seq places m) {p : Nat} {tk : Tok} {hs : Int} (hp : places[i]? = some (.int p tk)) (hx : es[p]? = some (hs, x)) {Q : Option Value → Shared → Prop}
    (hQ : ∀ h', h'.get? I = some (siObj (.ref T) (i + 1) S es.size ep) → Heap.SameBut I s.heap h' → Q (some x) { s with heap := h' }) : wpAny (model prog w) A (pyNext (.ref I)) Q E s := by
  have hty : s.TypeIs (.ref I) "set_iterator" := ⟨_, hI, rfl⟩
  unfold pyNext
  apply wpAny_bind
  apply wpAny_attempt
  refine wpAny_callSpecial?_slot (name := Str.ofString "__next__") hty slot_si_next (wpAny_call_entry slot_si_next hty entry_si_next ?_ (args_si_next _))
  unfold Builtin.«set_iterator.__next__»
  refine wpAny_bind (wpAny_pure ?_)
  refine wpAny_bind (wpAny_fieldsOf hI rfl ?_)
  dsimp only
  refine wpAny_bind (wpAny_setEntries_of hS hd hf ?_)
  rw [if_neg (show ¬ ((((es.size : Nat) : Int) != ((es.size : Nat) : Int)) = true) by simp)]
  refine wpAny_bind (wpAny_seqItems hT hTd ?_)
  dsimp only
  rw [show ((i : Nat) : Int).toNat = i from Int.toNat_natCast i, hp]
  dsimp only
  unfold setNextDrawn
  refine wpAny_bind (wpAny_bind (wpAny_setState_of hS hd hf ?_))
  dsimp only
  rw [if_neg (show ¬ ((ep != ((ep : Nat) : Int).toNat) = true) by simp)]
  rw [show ((p : Nat) : Int).toNat = p from Int.toNat_natCast p, hx]
  refine wpAny_pure ?_
  refine wpAny_bind (wpAny_setField hI rfl (by simp [siObj]) (wpAny_pure ⟨x, rfl, wpAny_pure (hQ _ ?_ (Heap.SameBut.update ..))⟩))
  rw [Heap.get?_update_self _ hI (Obj.isFreed_of_fields (Obj.data_mapFields rfl _))]
  rfl
theorem si_end_D (hh : A.handled = none) (hI : s.heap.get? I = some (siObj (.ref T) i S es.size ep)) (hS : s.heap.get? S = some o) (hd : o.data = .set es ep t) (hf : t.fits es.size = true) (hT : s.heap.get? T = some ot) (hTd : ot.data = .seq places m) (hp : places[i]? = none) {Q : Option Value → Shared → Prop}
    (hQ : ∀ h', (∀ b u, b ≠ I → s.heap.get? b = some u → h'.get? b = some u) → Q none { s with heap := h' }) : wpAny (model prog w) A (pyNext (.ref I)) Q E s := by
  have hty : s.TypeIs (.ref I) "set_iterator" := ⟨_, hI, rfl⟩
  unfold pyNext
  apply wpAny_bind
  apply wpAny_attempt
  refine wpAny_callSpecial?_slot (name := Str.ofString "__next__") hty slot_si_next (wpAny_call_entry slot_si_next hty entry_si_next ?_ (args_si_next _))
  unfold Builtin.«set_iterator.__next__»
  refine wpAny_bind (wpAny_pure ?_)
  refine wpAny_bind (wpAny_fieldsOf hI rfl ?_)
  dsimp only
  refine wpAny_bind (wpAny_setEntries_of hS hd hf ?_)
  rw [if_neg (show ¬ ((((es.size : Nat) : Int) != ((es.size : Nat) : Int)) = true) by simp)]
  refine wpAny_bind (wpAny_seqItems hT hTd ?_)
  dsimp only
  rw [show ((i : Nat) : Int).toNat = i from Int.toNat_natCast i, hp]
  dsimp only
  refine wpAny_bind (wpAny_setField hI rfl (by simp [siObj]) ?_)
  have hI2 := Heap.get?_update_self (Obj.mapFields (·.setIfInBounds 0 (rawInt 0))) hI (Obj.isFreed_of_fields (Obj.data_mapFields rfl _))
  refine wpAny_bind (wpAny_setField hI2 (Obj.data_mapFields rfl _) (by simp [siObj]) ?_)
  refine raise_stop (show A.in1.handled = none from hh) fun e h' k hE => ?_
  refine wpAny_bind (wpAny_isInstance (T := "StopIteration") (b := true) hE isSubtype_stop ?_)
  refine wpAny_pure (hQ h' fun b u nb hb => k b u ?_)
  exact (Heap.SameBut.update _ I _).extBut b u nb ((Heap.SameBut.update _ I _).extBut b u nb hb)
theorem si_item_N {sl nx : Nat} (hI : s.heap.get? I = some (siObj (rawInt sl) i S es.size ep)) (hS : s.heap.get? S = some o) (hd : o.data = .set es ep t) (hf : t.fits es.size = true)
    (hN : ∀ (B : Around) (E' : Value → Shared → Prop) (Q' : Option (Value × Nat) → Shared → Prop), Q' (some (x, nx)) s → wpAny (model prog w) B (setNext S sl i ep) Q' E' s) {Q : Option Value → Shared → Prop}
    (hQ : ∀ h', h'.get? I = some (siObj (rawInt nx) (i + 1) S es.size ep) → Heap.SameBut I s.heap h' → Q (some x) { s with heap := h' }) : wpAny (model prog w) A (pyNext (.ref I)) Q E s := by
  have hty : s.TypeIs (.ref I) "set_iterator" := ⟨_, hI, rfl⟩
  unfold pyNext
  apply wpAny_bind
  apply wpAny_attempt
  refine wpAny_callSpecial?_slot (name := Str.ofString "__next__") hty slot_si_next (wpAny_call_entry slot_si_next hty entry_si_next ?_ (args_si_next _))
  unfold Builtin.«set_iterator.__next__»
  refine wpAny_bind (wpAny_pure ?_)
  refine wpAny_bind (wpAny_fieldsOf hI rfl ?_)
  dsimp only
  refine wpAny_bind (wpAny_setEntries_of hS hd hf ?_)
  rw [if_neg (show ¬ ((((es.size : Nat) : Int) != ((es.size : Nat) : Int)) = true) by simp)]
  dsimp only [rawInt]
  refine wpAny_bind ?_
  rw [show ((i : Nat) : Int).toNat = i from Int.toNat_natCast i, show ((sl : Nat) : Int).toNat = sl from Int.toNat_natCast sl, show ((ep : Nat) : Int).toNat = ep from Int.toNat_natCast ep]
  refine hN _ _ _ ?_
  dsimp only
  refine wpAny_bind (wpAny_setField hI rfl (by simp [siObj]) ?_)
  have hI2 := Heap.get?_update_self (Obj.mapFields (·.setIfInBounds 0 (rawInt nx))) hI (Obj.isFreed_of_fields (Obj.data_mapFields rfl _))
  refine wpAny_bind (wpAny_setField hI2 (Obj.data_mapFields rfl _) (by simp [siObj]) (wpAny_pure ⟨x, rfl, wpAny_pure (hQ _ ?_ ((Heap.SameBut.update ..).trans (Heap.SameBut.update ..)))⟩))
  exact (Heap.get?_update_self _ hI2 (Obj.isFreed_of_fields (Obj.data_mapFields (Obj.data_mapFields rfl _) _))).trans rfl
theorem si_end_N {sl : Nat} (hh : A.handled = none) (hI : s.heap.get? I = some (siObj (rawInt sl) i S es.size ep)) (hS : s.heap.get? S = some o) (hd : o.data = .set es ep t) (hf : t.fits es.size = true)
    (hN : ∀ (B : Around) (E' : Value → Shared → Prop) (Q' : Option (Value × Nat) → Shared → Prop), Q' none s → wpAny (model prog w) B (setNext S sl i ep) Q' E' s) {Q : Option Value → Shared → Prop}
    (hQ : ∀ h', (∀ b u, b ≠ I → s.heap.get? b = some u → h'.get? b = some u) → Q none { s with heap := h' }) : wpAny (model prog w) A (pyNext (.ref I)) Q E s := by
  have hty : s.TypeIs (.ref I) "set_iterator" := ⟨_, hI, rfl⟩
  unfold pyNext
  apply wpAny_bind
  apply wpAny_attempt
  refine wpAny_callSpecial?_slot (name := Str.ofString "__next__") hty slot_si_next (wpAny_call_entry slot_si_next hty entry_si_next ?_ (args_si_next _))
  unfold Builtin.«set_iterator.__next__»
  refine wpAny_bind (wpAny_pure ?_)
  refine wpAny_bind (wpAny_fieldsOf hI rfl ?_)
  dsimp only
  refine wpAny_bind (wpAny_setEntries_of hS hd hf ?_)
  rw [if_neg (show ¬ ((((es.size : Nat) : Int) != ((es.size : Nat) : Int)) = true) by simp)]
  dsimp only [rawInt]
  refine wpAny_bind ?_
  rw [show ((i : Nat) : Int).toNat = i from Int.toNat_natCast i, show ((sl : Nat) : Int).toNat = sl from Int.toNat_natCast sl, show ((ep : Nat) : Int).toNat = ep from Int.toNat_natCast ep]
  refine hN _ _ _ ?_
  dsimp only
  refine wpAny_bind (wpAny_setField hI rfl (by simp [siObj]) ?_)
  refine raise_stop (show A.in1.handled = none from hh) fun e h' k hE => ?_
  refine wpAny_bind (wpAny_isInstance (T := "StopIteration") (b := true) hE isSubtype_stop ?_)
  refine wpAny_pure (hQ h' fun b u nb hb => k b u ?_)
  exact (Heap.SameBut.update _ I _).extBut b u nb hb
theorem si_self {first : Value} (hI : s.heap.get? I = some (siObj first i S es.size ep)) {Q : Value → Shared → Prop} (h : Q (.ref I) s) : wpAny (model prog w) A (pyIter (.ref I)) Q E s := by
  have hty : s.TypeIs (.ref I) "set_iterator" := ⟨_, hI, rfl⟩
  refine wpAny_pyIter_slot hty slot_si_iter (wpAny_call_entry slot_si_iter hty entry_si_iter ?_ (args_si_iter _))
  exact wpAny_pure ⟨_, rfl, "set_iterator", _, hty, slot_si_next.lookup, h⟩
end
end L2

set_option linter.all false
set_option maxRecDepth 100000
set_option Elab.async false
set_option maxHeartbeats 4000000
namespace L2
open PySem PyProof.Rows
theorem pick_perm {α : Type} (next : Nat → Nat) : ∀ (fuel k : Nat) (left : List α) (out : Array α), left.length = fuel → (pickOrder.go next fuel k left out).toList.Perm (out.toList ++ left)
  | 0, k, [], out, _ => by
    unfold pickOrder.go
    rw [List.append_nil]
  | fuel + 1, k, x :: r, out, hl => by
    unfold pickOrder.go
    have hi : next k % (x :: r).length < (x :: r).length := Nat.mod_lt _ (by simp)
    obtain ⟨y, hy⟩ : ∃ y, (x :: r)[next k % (x :: r).length]? = some y := ⟨_, List.getElem?_eq_getElem hi⟩
    rw [hy]
    dsimp only
    refine (pick_perm next fuel (k + 1) _ _ (by rw [List.length_eraseIdx_of_lt hi]; simp at hl ⊢; exact hl)).trans ?_
    rw [Array.toList_push, List.append_assoc]
    exact List.Perm.append_left _ (erase_permL _ _ y hy)
theorem pickOrder_perm {α : Type} (next : Nat → Nat) (xs : Array α) : (pickOrder next xs).toList.Perm xs.toList := by
  unfold pickOrder
  have h := pick_perm next xs.size 0 xs.toList #[] (by simp)
  simpa using h
section
variable {prog : Program} {w : World} {A : Around} {I S T : Addr} {m ep : Nat} {o ot : Obj} {es : Array (Int × Value)} {t : SetTable} {places : Array Value}
theorem walk_D (hh : A.handled = none) (hS : S ≠ I) (hT : T ≠ I) (hd : o.data = .set es ep t) (hf : t.fits es.size = true) (hTd : ot.data = .seq places m) (hp : ∀ i, i < places.size → ∃ (p : Nat) (tk : Tok) (z : Int × Value), places[i]? = some (.int p tk) ∧ es[p]? = some z) :
    Walks prog w A I [I, S, T] [I] places.size (fun i v => ∃ (p : Nat) (tk : Tok) (z : Int), places[i]? = some (.int p tk) ∧ es[p]? = some (z, v)) (fun i h => h.get? I = some (siObj (.ref T) i S es.size ep) ∧ h.get? S = some o ∧ h.get? T = some ot) where
  sub := fun b hb => by simp at hb; simp [hb]
  frame := fun _ _ _ st hk => ⟨hk I (by simp) _ st.1, hk S (by simp) _ st.2.1, hk T (by simp) _ st.2.2⟩
  item := fun i s Q E hi st hQ => by
    obtain ⟨p, tk, ⟨z, v⟩, h1, h2⟩ := hp i hi
    refine si_item_D st.1 st.2.1 hd hf st.2.2 hTd h1 h2 fun h' hI sb => ?_
    exact hQ v h' s.toks ⟨p, tk, z, h1, h2⟩ ⟨hI, sb.extBut S _ hS st.2.1, sb.extBut T _ hT st.2.2⟩ fun b u nb e => sb.extBut b u (by simpa using nb) e
  done := fun s Q E st hQ => si_end_D hh st.1 st.2.1 hd hf st.2.2 hTd (by simp) fun h' k => hQ h' s.toks fun b u nb e => k b u (by simpa using nb) e
  self := fun i s Q E st hQ => si_self st.1 hQ
theorem walk_N (hh : A.handled = none) (hS : S ≠ I) (hd : o.data = .set es ep t) (hf : t.fits es.size = true) (sl : Nat → Nat) (ord : List Value)
    (hN : ∀ (i : Nat) (s : Shared), s.heap.get? S = some o → i ≤ ord.length → ∀ (B : Around) (E' : Value → Shared → Prop) (Q' : Option (Value × Nat) → Shared → Prop), Q' ((ord[i]?).map fun v => (v, sl (i + 1))) s → wpAny (model prog w) B (setNext S (sl i) i ep) Q' E' s) :
    Walks prog w A I [I, S] [I] ord.length (fun i v => ord[i]? = some v) (fun i h => h.get? I = some (siObj (rawInt (sl i)) i S es.size ep) ∧ h.get? S = some o) where
  sub := fun b hb => by simp at hb; simp [hb]
  frame := fun _ _ _ st hk => ⟨hk I (by simp) _ st.1, hk S (by simp) _ st.2⟩
  item := fun i s Q E hi st hQ => by
    obtain ⟨v, hv⟩ : ∃ v, ord[i]? = some v := ⟨_, List.getElem?_eq_getElem hi⟩
    refine si_item_N (x := v) (nx := sl (i + 1)) st.1 st.2 hd hf (fun B E' Q' q => hN i s st.2 (Nat.le_of_lt hi) B E' Q' (by rw [hv]; exact q)) fun h' hI sb => ?_
    exact hQ v h' s.toks hv ⟨hI, sb.extBut S _ hS st.2⟩ fun b u nb e => sb.extBut b u (by simpa using nb) e
  done := fun s Q E st hQ => si_end_N hh st.1 st.2 hd hf (fun B E' Q' q => hN _ s st.2 (Nat.le_refl _) B E' Q' (by rw [List.getElem?_eq_none (Nat.le_refl _)]; exact q)) fun h' k => hQ h' s.toks fun b u nb e => k b u (by simpa using nb) e
  self := fun i s Q E st hQ => si_self st.1 hQ
structure ItOk (prog : Program) (w : World) (A : Around) (S : Addr) (el : List Value) (s s2 : Shared) (I : Addr) : Prop where
  w : ∃ (fp : List Addr) (P : Nat → Value → Prop) (St : Nat → Heap → Prop), Walks prog w A I fp [I] el.length P St ∧ St 0 s2.heap ∧ I ∈ fp ∧ (∀ b ∈ fp, b < s2.heap.objs.size ∧ (b = S ∨ s.heap.objs.size ≤ b)) ∧ ∀ acc, ItemsOf P acc el.length → acc.toList.Perm el
  keep : ∀ b u, s.heap.get? b = some u → s2.heap.get? b = some u
  new : s.heap.objs.size ≤ I
  gens : s2.gens = s.gens
  os : s2.os = s.os
  toks : s2.toks = s.toks
theorem items_of {ord : List Value} {acc : Array Value} (h : ItemsOf (fun i v => ord[i]? = some v) acc ord.length) : acc.toList = ord := by
  obtain ⟨hl, h⟩ := h
  apply List.ext_getElem?
  intro j
  by_cases hj : j < acc.size
  · have := h j acc[j] (by simp [hj])
    rw [this]
    simp [hj]
  · rw [List.getElem?_eq_none (by simpa using hj), List.getElem?_eq_none (by first | lia | omega)]
end
end L2

set_option linter.all false
set_option maxRecDepth 100000
set_option Elab.async false
set_option maxHeartbeats 4000000
namespace L2
open PySem PyProof.Rows
section
variable {prog : Program} {w : World} {A : Around} {S : Addr} {ep : Nat} {o : Obj} {es : Array (Int × Value)} {t : SetTable}
theorem walk_places {ys : List Nat} {n : Nat} (hp : ys.Perm (List.range n)) (hn : n = es.size) : ∀ i, i < (ys.map fun (i : Nat) => rawInt i).toArray.size → ∃ (p : Nat) (tk : Tok) (z : Int × Value), (ys.map fun (i : Nat) => rawInt i).toArray[i]? = some (.int p tk) ∧ es[p]? = some z := by
  intro i hi
  have hi' : i < ys.length := by simpa using hi
  have hm : ys[i] ∈ List.range n := hp.mem_iff.mp (List.getElem_mem hi')
  have hlt : ys[i] < es.size := by rw [← hn]; exact List.mem_range.mp hm
  exact ⟨ys[i], 0, es[ys[i]], by simp [hi', rawInt], by simp [hlt]⟩
theorem items_places {ys : List Nat} {n : Nat} (hp : ys.Perm (List.range n)) (hn : n = es.size) {acc : Array Value} (h : ItemsOf (fun i v => ∃ (p : Nat) (tk : Tok) (z : Int), (ys.map fun (i : Nat) => rawInt i).toArray[i]? = some (.int p tk) ∧ es[p]? = some (z, v)) acc ys.length) : acc.toList.Perm (es.toList.map (·.2)) := by
  have e : acc.toList = ys.map fun p => (es.toList.getD p (0, .none)).2 := by
    apply List.ext_getElem?
    intro j
    by_cases hj : j < ys.length
    · have hj' : j < acc.size := by rw [h.1]; exact hj
      obtain ⟨p, tk, z, h1, h2⟩ := h.2 j acc[j] (by simp [hj'])
      simp [hj, rawInt] at h1
      obtain ⟨h1, _⟩ := h1
      have h1' : ys[j] = p := by exact_mod_cast h1
      rw [List.getElem?_map, List.getElem?_eq_getElem hj, h1']
      have h2' : es.toList[p]? = some (z, acc[j]) := by simpa using h2
      simp [List.getD, h2, h2', hj']
    · rw [List.getElem?_eq_none (by have := h.1; simp; first | lia | omega), List.getElem?_eq_none (by simpa using hj)]
  rw [e]
  refine (hp.map _).trans (List.Perm.of_eq ?_)
  apply List.ext_getElem?
  intro j
  rw [List.getElem?_map, List.getElem?_map]
  by_cases hj : j < n
  · rw [List.getElem?_range hj]
    have hj' : j < es.size := by first | lia | omega
    simp [List.getD, hj']
  · rw [List.getElem?_eq_none (by simpa using hj), List.getElem?_eq_none (by simp; first | lia | omega)]
    rfl
theorem set_iter (hh : A.handled = none) (hcls : o.cls = .type "set") (hd : o.data = .set es ep t) (hf : t.fits es.size = true) (hb : es.size < scanBound) (hTab : SetTab w es t) {E : Value → Shared → Prop} {s : Shared} {R : Value → Shared → Prop} (hS : s.heap.get? S = some o)
    (h : ∀ (I : Addr) (s2 : Shared), ItOk prog w A S (es.toList.map (·.2)) s s2 I → R (.ref I) s2) : wpAny (model prog w) A (pyIter (.ref S)) R E s := by
  have hty : s.TypeIs (.ref S) "set" := ⟨_, hS, hcls⟩
  have hlt := Heap.lt_size hS
  refine wpAny_pyIter_slot hty F.slot_set_iter (wpAny_call_entry F.slot_set_iter hty entry_set_iterF ?_ (F.args_set_iter_1 _))
  unfold Builtin.«frozenset.__iter__» Builtin.Frozenset.slot0 Builtin.Frozenset.sizeOf
  refine wpAny_bind (wpAny_bind (wpAny_pure (wpAny_pure ?_)))
  refine wpAny_bind (wpAny_bind (wpAny_setEntries_of hS hd hf (wpAny_pure ?_)))
  refine wpAny_bind ?_
  unfold setDrawn setsByText
  refine wpAny_bind (wpAny_setState_of hS hd hf (wpAny_bind (wpAny_bind (wpAny_askSetting (wpAny_pure (wpAny_pure ?_))))))
  have hlen : (es.toList.map (·.2)).length = es.size := by simp
  -- where no tuple is made
  have fin : (∀ (i : Nat) (s : Shared), s.heap.get? S = some o → i ≤ es.size → True) → ∀ (sl : Nat → Nat) (ord : List Value), sl 0 = 0 → ord.Perm (es.toList.map (·.2)) →
      (∀ (i : Nat) (s : Shared), s.heap.get? S = some o → i ≤ ord.length → ∀ (B : Around) (E' : Value → Shared → Prop) (Q' : Option (Value × Nat) → Shared → Prop), Q' ((ord[i]?).map fun v => (v, sl (i + 1))) s → wpAny (model prog w) B (setNext S (sl i) i ep) Q' E' s) →
      wpAny (model prog w) A.in1 (do ret (← newFields "set_iterator" [rawInt 0, rawInt 0, .ref S, rawInt es.size, rawInt (← setEpoch S)])) (fun fin s' => ∃ v, fin = .done (.ret v) ∧ ∃ T' r, s'.TypeIs v T' ∧ typeLookup (.type T') "__next__" = pure (some r) ∧ R v s') E s := by
    intro _ sl ord h0 hperm hN
    refine wpAny_bind (wpAny_setEpoch_of hS hd hf ?_)
    refine wpAny_bind (wpAny_newObj_type (wpAny_pure ⟨_, rfl, "set_iterator", _, ⟨_, Heap.get?_push_size _ rfl, rfl⟩, slot_si_next.lookup, h _ _ ?_⟩))
    have hol : ord.length = (es.toList.map (·.2)).length := hperm.length_eq
    refine ⟨⟨[s.heap.objs.size, S], _, _, hol ▸ walk_N hh (Nat.ne_of_lt hlt) hd hf sl ord hN, ⟨by rw [h0]; exact Heap.get?_push_size _ rfl, Heap.get?_push_of_some _ hS⟩, by simp, ?_, fun acc ha => ?_⟩, fun b u e => Heap.get?_push_of_some _ e, Nat.le_refl _, rfl, rfl, rfl⟩
    · intro b hb
      rw [Heap.size_push]
      simp at hb
      rcases hb with rfl | rfl
      · exact ⟨Nat.lt_succ_self _, .inr (Nat.le_refl _)⟩
      · exact ⟨Nat.lt_succ_of_lt hlt, .inl rfl⟩
    · rw [← hol] at ha
      rw [items_of ha]
      exact hperm
  dsimp only
  cases hft : (model prog w).w.params.followText "set-order" with
  | true =>
    rw [if_neg (by simp)]
    refine wpAny_bind (wpAny_pure ?_)
    refine fin (fun _ _ _ _ => trivial) (fun _ => 0) ((pickOrder ((model prog w).w.params.setOrder S ep) es).toList.map (·.2)) rfl ((pickOrder_perm _ es).map _) fun i s1 hS1 hi B E' Q' q => ?_
    unfold setNext setsByText setWalk setsByText
    refine wpAny_bind (wpAny_setState_of hS1 hd hf ?_)
    refine wpAny_bind (wpAny_bind (wpAny_askSetting (wpAny_pure ?_)))
    dsimp only
    rw [hft, if_pos rfl]
    rw [if_neg (show ¬ ((ep != ep) = true) by simp)]
    refine wpAny_bind (wpAny_bind (wpAny_setState_of hS1 hd hf ?_))
    refine wpAny_bind (wpAny_bind (wpAny_askSetting (wpAny_pure ?_)))
    dsimp only
    rw [hft, if_pos rfl]
    refine wpAny_bind (wpAny_askSetting (wpAny_pure (wpAny_pure ?_)))
    simpa [Function.comp_def] using q
  | false =>
    by_cases h1 : es.size > 1
    · have hpl : t.plain = false := hTab.2.resolve_left (by first | lia | omega)
      refine wpAny_ite_true (decide_eq_true (show ((!false) && (!t.plain && decide (es.size > 1))) = true by rw [hpl]; simp [h1])) ?_
      refine wpAny_bind (draw_order es.size (List.range es.size) s _ (by simp) fun ys d hperm => ?_)
      have hyl : ys.length = es.size := by rw [hperm.length_eq]; simp
      refine wpAny_bind (wpAny_newTuple ?_ (by rw [List.length_map, hyl]; exact fits_of_scanBound hb))
      have hS1 : (s.heap.push { cls := .type "tuple", data := .seq (ys.map fun (i : Nat) => rawInt i).toArray }).get? S = some o := Heap.get?_push_of_some _ hS
      refine wpAny_bind (wpAny_setEpoch_of hS1 hd hf ?_)
      refine wpAny_bind (wpAny_newObj_type (wpAny_pure ⟨_, rfl, "set_iterator", _, ⟨_, Heap.get?_push_size _ rfl, rfl⟩, slot_si_next.lookup, h _ _ ?_⟩))
      have esz : (s.heap.push { cls := .type "tuple", data := .seq (ys.map fun (i : Nat) => rawInt i).toArray }).objs.size = s.heap.objs.size + 1 := Heap.size_push _ _
      have epl : (ys.map fun (i : Nat) => rawInt i).toArray.size = (es.toList.map (·.2)).length := by simp [hyl]
      have hw := walk_D (prog := prog) (w := w) (A := A) (I := (s.heap.push { cls := .type "tuple", data := .seq (ys.map fun (i : Nat) => rawInt i).toArray }).objs.size) (S := S) (T := s.heap.objs.size) (o := o) (ot := { cls := .type "tuple", data := .seq (ys.map fun (i : Nat) => rawInt i).toArray }) hh (by rw [esz]; exact Nat.ne_of_lt (Nat.lt_succ_of_lt hlt)) (by rw [esz]; exact Nat.ne_of_lt (Nat.lt_succ_self _)) hd hf rfl (walk_places hperm rfl)
      rw [epl] at hw
      refine ⟨⟨_, _, _, hw, ⟨Heap.get?_push_size _ rfl, Heap.get?_push_of_some _ hS1, Heap.get?_push_of_some _ (Heap.get?_push_size _ rfl)⟩, by simp, ?_, fun acc ha => ?_⟩, fun b u e => Heap.get?_push_of_some _ (Heap.get?_push_of_some _ e), by dsimp only; rw [esz]; exact Nat.le_succ _, rfl, rfl, rfl⟩
      · intro b hb
        have h3 : b = s.heap.objs.size + 1 ∨ b = S ∨ b = s.heap.objs.size := by
          rw [esz] at hb
          simpa using hb
        dsimp only
        rw [Heap.size_push, esz]
        rcases h3 with rfl | rfl | rfl
        · exact ⟨Nat.lt_succ_self _, .inr (Nat.le_succ _)⟩
        · exact ⟨Nat.lt_succ_of_lt (Nat.lt_succ_of_lt hlt), .inl rfl⟩
        · exact ⟨Nat.lt_succ_of_lt (Nat.lt_succ_self _), .inr (Nat.le_refl _)⟩
      · rw [← epl, List.size_toArray, List.length_map] at ha
        exact items_places hperm rfl ha
    · refine wpAny_ite_false (decide_eq_false (show ¬ (((!false) && (!t.plain && decide (es.size > 1))) = true) by simp [h1])) ?_
      refine wpAny_bind (wpAny_pure ?_)
      have hdr : (!t.plain && decide (es.size > 1)) = false := by simp [h1]
      have hled : t.led = true := by
        have z := hTab.1
        rw [show w.params.followText "set-order" = false from hft] at z
        exact z
      have hpz : t.place.size = es.size := by
        unfold SetTable.fits at hf
        simp at hf
        exact hf.1
      refine fin (fun _ _ _ _ => trivial) (fun i => if i = 0 then 0 else t.place.getD 0 0 + 1) (es.toList.map (·.2)) rfl (List.Perm.refl _) fun i s1 hS1 hi B E' Q' q => ?_
      unfold setNext setsByText
      refine wpAny_bind (wpAny_setState_of hS1 hd hf ?_)
      refine wpAny_bind (wpAny_bind (wpAny_askSetting (wpAny_pure ?_)))
      dsimp only
      rw [hft, if_neg (by simp)]
      refine wpAny_ite_false (decide_eq_false (show ¬ ((!t.plain && decide (es.size > 1)) = true) by rw [hdr]; simp)) ?_
      refine wpAny_bind (wpAny_ite_false (decide_eq_false (show ¬ ((!t.led && !es.isEmpty) = true) by rw [hled]; simp)) (wpAny_pure (wpAny_pure ?_)))
      have hcase : es.size = 0 ∨ es.size = 1 := by first | lia | omega
      rcases hcase with hz | hz
      · have hes : es = #[] := Array.eq_empty_of_size_eq_zero hz
        have hpl : t.place = #[] := Array.eq_empty_of_size_eq_zero (by first | lia | omega)
        subst hes
        have hi0 : i = 0 := by simpa using hi
        subst hi0
        rw [hpl]
        simpa [SetTable.below, SetTable.below.go] using q
      · obtain ⟨e, hes⟩ := Array.size_eq_one_iff.mp hz
        obtain ⟨j, hpl⟩ := Array.size_eq_one_iff.mp (hpz.trans hz)
        subst hes
        have hi1 : i = 0 ∨ i = 1 := by
          have : i ≤ 1 := by simpa using hi
          first | lia | omega
        rw [hpl] at q ⊢
        rcases hi1 with rfl | rfl
        · simpa [SetTable.below, SetTable.below.go] using q
        · simpa [SetTable.below, SetTable.below.go] using q
end
end L2

set_option linter.all false
set_option maxRecDepth 100000
set_option Elab.async false
set_option maxHeartbeats 4000000
namespace L2
open PySem PyProof.Rows
section
variable {prog : Program} {w : World} {A : Around} {S : Addr} {ep : Nat} {o : Obj} {es : Array (Int × Value)} {t : SetTable}
theorem collect_set (hh : A.handled = none) (hcls : o.cls = .type "set") (hd : o.data = .set es ep t) (hf : t.fits es.size = true) (hb : es.size < scanBound) (hTab : SetTab w es t) {E : Value → Shared → Prop} {s : Shared} {Q : List Value → Shared → Prop} (hS : s.heap.get? S = some o)
    (h : ∀ (acc : List Value) (h' : Heap) (d : Drawn) (tk : Nat), acc.Perm (es.toList.map (·.2)) → (∀ b u, s.heap.get? b = some u → h'.get? b = some u) → s.heap.objs.size < h'.objs.size → Q acc { s with heap := h', drawn := d, toks := tk }) : wpAny (model prog w) A (collect (.ref S)) Q E s := by
  have hlt := Heap.lt_size hS
  unfold collect
  apply wpAny_bind
  apply wpAny_runValue
  apply codeAny_builtin F.entry_proto_collect
  rw [Around.under_plainId F.plain_proto_collect]
  show wpAny _ A.in1 (newList [] >>= fun l => again (.builtin "list.__iadd__" ⟨[l, .ref S], []⟩)) _ _ s
  apply wpAny_bind
  refine wpAny_newObj_type (wpAny_pure ⟨plainId_quiet F.plain_list_iadd _, codeAny_builtin F.entry_list_iadd ?_⟩)
  rw [Around.under_plainId F.plain_list_iadd]
  have hS1 : (s.heap.push { cls := .type "list", data := .seq ([] : List Value).toArray }).get? S = some o := Heap.get?_push_of_some _ hS
  have hL1 : (s.heap.push { cls := .type "list", data := .seq ([] : List Value).toArray }).get? s.heap.objs.size = some { cls := .type "list", data := .seq ([] : List Value).toArray } := Heap.get?_push_size _ rfl
  have e1 : Builtin.List.listSameRef (.ref s.heap.objs.size) (.ref S) = false := by
    show (s.heap.objs.size == S) = false
    simpa using Nat.ne_of_gt hlt
  show wpAny _ A.in1 (Builtin.List.listExtendWith (.ref s.heap.objs.size) (.ref S) (.ref s.heap.objs.size)) _ _ _
  unfold Builtin.List.listExtendWith
  refine wpAny_bind (wpAny_typeOf (T := "set") ⟨o, hS1, hcls⟩ ?_)
  rw [if_neg (by rw [e1]; decide)]
  refine wpAny_bind (set_iter (A := A.in1) hh hcls hd hf hb hTab hS1 fun I s2 it => ?_)
  have hS2 := it.keep S o hS1
  have hL2 := it.keep _ _ hL1
  refine wpAny_bind (wpAny_holding ?_)
  unfold Builtin.List.listLengthHint
  refine wpAny_bind (wpAny_specialOf (T := "set") ⟨o, hS2, hcls⟩ F.slot_set_len.lookup ?_)
  generalize hid : ("set.__len__" : String) = id0
  wp_delta
  rw [show splitId id0 = some ("set", "__len__") from by subst hid; decide +kernel]
  subst hid
  refine wpAny_bind (wpAny_isInstance (b := true) (T := "set") ⟨o, hS2, hcls⟩ sub_set_self ?_)
  refine wpAny_ite_false (by rfl) ?_
  refine wpAny_ite_true (by decide +kernel) ?_
  refine wpAny_bind (wpAny_typeOf (T := "set") ⟨o, hS2, hcls⟩ ?_)
  refine wpAny_pure ?_
  refine wpAny_ite_true (by decide +kernel) ?_
  refine wpAny_bind (wpAny_rule ?_)
  obtain ⟨fp, P, St, W, st0, hI, hfp, hit⟩ := it.w
  have esz : (s.heap.push { cls := .type "list", data := .seq ([] : List Value).toArray }).objs.size = s.heap.objs.size + 1 := Heap.size_push _ _
  have hLf : s.heap.objs.size ∉ fp := fun hm => by
    rcases (hfp _ hm).2 with z | z
    · exact absurd z (Nat.ne_of_gt hlt)
    · dsimp only at z
      rw [esz] at z
      exact absurd z (Nat.not_succ_le_self _)
  apply wpAny_bind
  show wpAny _ A.in1 (updateSeq s.heap.objs.size (·.push .none) >>= fun _ => updateSeq s.heap.objs.size (·.pop)) _ _ _
  apply wpAny_bind
  refine wpAny_updateSeq hL2 rfl ?_
  have hL3 := Heap.get?_update_self (Obj.mapSeq (·.push Value.none)) hL2 rfl
  refine wpAny_updateSeq hL3 rfl ?_
  have hL4 := Heap.get?_update_self (Obj.mapSeq (·.pop)) hL3 rfl
  have oth : ∀ b u, b ≠ s.heap.objs.size → s2.heap.get? b = some u → ((s2.heap.update s.heap.objs.size (Obj.mapSeq (·.push Value.none))).update s.heap.objs.size (Obj.mapSeq (·.pop))).get? b = some u :=
    fun b u nb e => (Heap.get?_update_other _ _ (Ne.symm nb)).trans ((Heap.get?_update_other _ _ (Ne.symm nb)).trans e)
  have hel : (es.toList.map (·.2)).length ≤ sizeLine := by
    rw [List.length_map, Array.length_toList]
    exact fits_of_scanBound hb
  refine wpAny_pure ⟨plainId_quiet F.plain_extend_loop _, codeAny_extend_loopS (Walks.toS W) hel s.heap.objs.size hLf _ _ 0 _ _ _ rfl (Nat.zero_le _) (W.frame 0 _ _ st0 fun b hb u e => oth b u (fun z => hLf (z ▸ hb)) e) hL4 (ItemsOf.nil P) fun s' acc' c' hm hS' hacc => ?_⟩
  show wpAny _ A (load s.heap.objs.size >>= _) _ _ s'
  apply wpAny_bind
  refine wpAny_load hS' (wpAny_pure ?_)
  obtain ⟨h', g', d', tk', os'⟩ := s'
  have g1 := hm.gens
  have g2 := hm.os
  dsimp only at g1 g2
  have g3 := it.gens
  have g4 := it.os
  rw [g3] at g1
  rw [g4] at g2
  dsimp only at g1 g2
  subst g1 g2
  refine h acc'.toList h' d' tk' (hit acc' hacc) (fun b u e => ?_) (Heap.lt_size hS')
  have hbl := Heap.lt_size e
  have nb : b ≠ s.heap.objs.size := Nat.ne_of_lt hbl
  have nI : b ≠ I := fun z => by
    have z2 := it.new
    dsimp only at z2
    rw [esz, ← z] at z2
    exact absurd (Nat.lt_trans hbl z2) (Nat.lt_irrefl _)
  refine hm.heap b u (by simp [nb, nI]) (oth b u nb (it.keep b u (Heap.get?_push_of_some _ e)))
end
end L2

set_option linter.all false
set_option maxRecDepth 100000
set_option Elab.async false
set_option maxHeartbeats 4000000
namespace L2
open PySem PyProof.Rows
theorem perm_of_full {α : Type} [DecidableEq α] : ∀ (L M : List α), L.Nodup → (∀ x ∈ L, x ∈ M) → M.length = L.length → M.Perm L
  | [], M, _, _, hl => by
    have : M = [] := List.eq_nil_of_length_eq_zero hl
    rw [this]
  | x :: r, M, hn, hm, hl => by
    obtain ⟨hx, hr⟩ := List.nodup_cons.mp hn
    have hxM := hm x (by simp)
    have ih := perm_of_full r (M.erase x) hr (fun y hy => (List.mem_erase_of_ne (show y ≠ x from fun z => hx (by rw [← z]; exact hy))).mpr (hm y (by simp [hy]))) (by rw [List.length_erase_of_mem hxM, hl]; simp)
    exact (List.perm_cons_erase hxM).trans (ih.cons x)
section
variable {prog : Program} {w : World} {A : Around} {S : Addr} {E : Value → Shared → Prop} {s : Shared}
theorem sorted_setP (hh : A.handled = none) {f : Str → Bool} {n : Nat} (hS : SetP prog w s.heap S f n) {L0 : List Str} (hnd : L0.Nodup) (hmem : ∀ k, f k = true ↔ k ∈ L0) (hn : n = L0.length) (h64 : n < 64) {Q : Value → Shared → Prop}
    (h : ∀ (l : Addr) (h' : Heap) (d : Drawn) (tk e : Nat) (out : Array Value) (ms : List Str), s.heap.objs.size ≤ l → (∀ b u, s.heap.get? b = some u → h'.get? b = some u) → h'.get? l = some (seqObj "list" out e) → StrsAre out.toList ms → ms.Perm L0 → sortedS ms = true → Q (.ref l) { s with heap := h', drawn := d, toks := tk }) :
    wpAny (model prog w) A (call (.builtin "sorted") [.ref S]) Q E s := by
  obtain ⟨o, es, ep, t, ho, hex, hd, hel, hm, hb, hf, hsz, hTab⟩ := hS
  refine Calls.call_function_entry kind_sorted plain_sorted entry_sorted (args_sorted1 _) ?_
  unfold Builtin.«sorted»
  apply wpAny_bind (m := checkCount "sorted" 1 1 _)
  apply wpAny_pure
  refine wpAny_bind (collect_set (A := A.in1) hh hex.1 hd hf hb hTab ho fun acc h1 d tk hp hk hgr => ?_)
  have hall : ∀ v, v ∈ acc → ∃ x t, v = .str x t := fun v hv => by
    obtain ⟨e, he, rfl⟩ := List.mem_map.mp (hp.mem_iff.mp hv)
    obtain ⟨⟨k, hk, _⟩, _⟩ := hel e he
    obtain ⟨t, ht⟩ := Value.isStrOf_shape hk
    exact ⟨k, t, ht⟩
  have hA := strsAre_map acc hall
  have hlen : acc.length = n := by rw [hp.length_eq, List.length_map, Array.length_toList]; exact hsz
  have hM : (acc.map strOf).Perm L0 := by
    refine ((hp.map strOf)).trans (perm_of_full L0 _ hnd (fun x hx => ?_) (by rw [List.length_map, List.length_map, Array.length_toList, hsz, hn]))
    obtain ⟨e, he, hk⟩ := (hm x).mp ((hmem x).mpr hx)
    obtain ⟨t, ht⟩ := Value.isStrOf_shape hk
    exact List.mem_map.mpr ⟨e.2, List.mem_map.mpr ⟨e, he, rfl⟩, by rw [ht]; rfl⟩
  have z64 : acc.length ≤ sizeLine := by rw [sizeLine_eq]; first | lia | omega
  apply wpAny_bind
  refine wpAny_newList ?_ z64
  have hoL : (h1.push (seqObj "list" acc.toArray 0)).get? h1.objs.size = some (seqObj "list" acc.toArray 0) := Heap.get?_push_size _ rfl
  refine wpAny_bind (wpAny_holding (wpAny_call_entry slot_list_sort ⟨_, hoL, rfl⟩ entry_list_sort (list_sort_treeK strKind_oneLt hoL hA.keysOf (fun v₁ v₂ rest e => keyKind_strs (by rw [← e]; exact hA)) (by first | lia | omega) fun st' a1 a2 => ⟨_, rfl, ?_⟩) (args_list_sort _)))
  obtain ⟨ms, b1, b2, b3⟩ := sorted_out_str hA a1 a2
  refine wpAny_pure ⟨_, rfl, ?_⟩
  obtain ⟨e, he⟩ := sortedHeap_at (vs := acc) (out := (arrOf st').map (·.2)) hoL
  have hszl : s.heap.objs.size ≤ h1.objs.size := Nat.le_of_lt hgr
  refine h _ _ d tk e _ ms hszl (fun b u eb => ?_) he b1 (b2.trans hM) b3
  have hbl := Heap.lt_size (hk b u eb)
  rw [sortedHeap_old (Nat.ne_of_lt hbl) (by rw [Heap.size_push]; exact Nat.lt_succ_of_lt hbl)]
  exact Heap.get?_push_of_some _ (hk b u eb)
end
end L2

set_option linter.all false
set_option maxRecDepth 100000
set_option Elab.async false
set_option maxHeartbeats 4000000
namespace L2
open PySem PySem.Spec PyProof.Rows
section
variable {X : Cx} {pins : List (Addr × Obj)} {σ : St} {H H' : Hp} {s : Shared} {h' : Heap}
theorem Inv.laidD {a : Addr} {o : HO} {t' : Nat} {d' : Drawn} (I : Inv X pins σ H s) (k : ∀ b u, s.heap.get? b = some u → h'.get? b = some u) (hp : s.heap.objs.size ≤ a) (new : ObjOk X.prog X.w (upd H a o) h' a o) :
    Inv X pins σ (upd H a o) { s with heap := h', drawn := d', toks := t' } := by
  have u : Un (frs X.stack) [] H (upd H a o) s.heap h' := Un.laid k hp (I.hok.fresh hp)
  exact I.call (g' := s.gens) (d' := d') u (I.hok.laid k hp new) I.bare (fun _ z => nomatch z)
theorem metS_nodup (val : Nat → Str) : ∀ i, (metS val i).Nodup
  | 0 => List.nodup_nil
  | i + 1 => by
    show (stepS (metS val i) (val i)).Nodup
    have ih := metS_nodup val i
    unfold stepS
    split
    · exact ih
    · next hne =>
      rw [List.nodup_append]
      exact ⟨ih, by simp, fun x hx y hy e => hne (by have : y = val i := by simpa using hy
                                                     rw [← this, ← e]; exact hx)⟩
noncomputable def mets (ss : List Str) : List Str := metS (fun i => ss.getD i "") ss.length
theorem mets_mem (ss : List Str) (k : Str) : k ∈ mets ss ↔ k ∈ ss := by
  unfold mets
  rw [metS_sub]
  constructor
  · rintro ⟨j, hj, e⟩
    rw [← e, List.getD_eq_getElem?_getD, List.getElem?_eq_getElem hj]
    exact List.getElem_mem hj
  · intro hk
    obtain ⟨j, hj, e⟩ := List.mem_iff_getElem.mp hk
    exact ⟨j, hj, by rw [List.getD_eq_getElem?_getD, List.getElem?_eq_getElem hj]; exact e⟩
theorem mets_nodup (ss : List Str) : (mets ss).Nodup := metS_nodup _ _
noncomputable def setQ (P : Program) (w : World) (a : Addr) (ss : List Str) : HO := .ext fun h => SetP P w h a (fun k => (mets ss).any fun x => x == k) (mets ss).length
theorem str_getD {ss : List Str} {its : List Value} (rv : Vals (ss.map V.str) its) {i : Nat} {v : Value} (hv : its.toArray[i]? = some v) : ∃ t, v = Value.str (ss.getD i "") t := by
  have hlen := rv.length
  rw [List.length_map] at hlen
  have hv' : its[i]? = some v := by simpa using hv
  have hi : i < ss.length := by
    rw [hlen]
    exact (List.getElem?_eq_some_iff.mp hv').1
  have e : (ss.map V.str)[i]? = some (V.str (ss.getD i "")) := by
    rw [List.getElem?_map, List.getElem?_eq_getElem hi]
    simp [hi]
  obtain ⟨u, hu, ru⟩ := rv.get e
  rw [hv'] at hu
  cases hu
  exact ru
theorem call_setQ (hc : X.calm = true) : CallR X (.type "set") (fun xs H Q => ∃ (p : Addr) (ss : List Str), xs = [.ref p] ∧ (H p = some (.lst (ss.map V.str)) ∨ H p = some (.tup (ss.map V.str))) ∧ ss.length ≤ 1000 ∧ ∀ a, H a = none → Q (.ref a) (upd H a (setQ X.prog X.w a ss))) := by
  intro pins s σ H xs us Q I r h
  obtain ⟨p, ss, rfl, hx, h1000, q⟩ := h
  obtain ⟨u, rfl, ru⟩ := vals1 r
  cases ru
  have fin : ∀ (its : List Value), its.length = ss.length → ∀ (h' : Heap) (tk : Nat), SetP X.prog X.w h' s.heap.objs.size (fun k' => (metS (fun i => ss.getD i "") its.toArray.size).any fun x => x == k') (metS (fun i => ss.getD i "") its.toArray.size).length →
      (∀ (b : Nat) (o : Obj), b < s.heap.objs.size → s.heap.get? b = some o → h'.get? b = some o) → EP X pins σ Q (Value.ref s.heap.objs.size) { s with heap := h', toks := tk } := by
    intro its hl h' tk hS hk
    have esz : its.toArray.size = ss.length := by rw [List.size_toArray, hl]
    rw [esz] at hS
    have hkk : ∀ b u, s.heap.get? b = some u → h'.get? b = some u := fun b u e => hk b u (Heap.lt_size e) e
    have hn : H s.heap.objs.size = none := I.hok.fresh (Nat.le_refl _)
    refine ⟨.ref s.heap.objs.size, _, I.laid (t' := tk) (o := setQ X.prog X.w s.heap.objs.size ss) hkk (Nat.le_refl _) ⟨hS, ?_, fun h1 h2 f g => ?_⟩, rfl, q _ hn⟩
    · obtain ⟨o, _, _, _, e, _⟩ := hS
      exact ⟨o, e⟩
    · exact f.at g
  rcases hx with hx | hx
  · obtain ⟨its, rv, pl, _⟩ := I.list (SqL.of hx)
    have hlen := rv.length
    rw [List.length_map] at hlen
    exact call_set_PL (val := fun i => ss.getD i "") (I.ok.hd hc) pl.isList (fun i v hv => str_getD rv hv) (by rw [List.size_toArray, ← hlen]; show _ < 4096; first | lia | omega) (fin its hlen.symm)
  · obtain ⟨its, rv, pl, _⟩ := I.tuple (SqT.of hx)
    have hlen := rv.length
    rw [List.length_map] at hlen
    exact call_set_PT (val := fun i => ss.getD i "") (I.ok.hd hc) pl (fun i v hv => str_getD rv hv) (by rw [List.size_toArray, ← hlen]; show _ < 4096; first | lia | omega) (fin its hlen.symm)
theorem call_sortedQ (hc : X.calm = true) : CallR X (.builtin "sorted") (fun xs H Q => ∃ (p : Addr) (ss : List Str), xs = [.ref p] ∧ H p = some (setQ X.prog X.w p ss) ∧ ss.length < 64 ∧ ∀ (l : Addr) (ms : List Str), H l = none → ms.Perm (mets ss) → sortedS ms = true → Q (.ref l) (upd H l (.lst (ms.map V.str)))) := by
  intro pins s σ H xs us Q I r h
  obtain ⟨p, ss, rfl, hx, h64, q⟩ := h
  obtain ⟨u, rfl, ru⟩ := vals1 r
  cases ru
  obtain ⟨hS, _, _⟩ : ObjOk X.prog X.w H s.heap p (setQ X.prog X.w p ss) := I.hok p _ hx
  have hle : (mets ss).length ≤ ss.length := metS_le (fun i => ss.getD i "") ss.length
  refine sorted_setP (I.ok.hd hc) hS (mets_nodup ss) (fun k => by rw [any_mem]; simp) rfl (by first | lia | omega) fun l h' d tk e out ms hl hk ho ha hp hs => ?_
  have hv : Vals (ms.map V.str) out.toList := vals_of_strs ha
  have hml := hp.length_eq
  exact ⟨.ref l, _, I.laidD (t' := tk) (d' := d) (o := .lst (ms.map V.str)) hk hl ⟨sizeLine_big (by rw [List.length_map]; first | lia | omega), out.toList, e, hv, by rw [ho] <;> rfl⟩, rfl, q l ms (I.hok.fresh hl) hp hs⟩
theorem risingS_pair : ∀ (p : Str) (l : List Str), risingS p l = true → (∀ x ∈ l, ¬ x.cps.toList < p.cps.toList) ∧ l.Pairwise fun a b => ¬ b.cps.toList < a.cps.toList
  | p, [], _ => ⟨fun x hx => by simp at hx, List.Pairwise.nil⟩
  | p, x :: r, h => by
    have h' : (!ltCps x.cps.toList p.cps.toList && risingS x r) = true := h
    rw [Bool.and_eq_true, ltCps_eq] at h'
    have hx : ¬ x.cps.toList < p.cps.toList := by simpa using h'.1
    obtain ⟨i1, i2⟩ := risingS_pair x r h'.2
    refine ⟨fun y hy => ?_, List.pairwise_cons.mpr ⟨i1, i2⟩⟩
    rcases List.mem_cons.mp hy with rfl | hy
    · exact hx
    · intro z
      have h1 := i1 y hy
      exact hx (List.lt_of_le_of_lt (List.not_lt.mp h1) z)
theorem sortedS_pair : ∀ (l : List Str), sortedS l = true → l.Pairwise fun a b => ¬ b.cps.toList < a.cps.toList
  | [], _ => List.Pairwise.nil
  | x :: r, h => List.pairwise_cons.mpr (risingS_pair x r h)
theorem cps_inj {a b : Str} (h : a.cps.toList = b.cps.toList) : a = b := by
  cases a; cases b
  congr
  exact Array.toList_inj.mp h
theorem sorted_uniq : ∀ {l m : List Str}, l.Perm m → (l.Pairwise fun a b => ¬ b.cps.toList < a.cps.toList) → (m.Pairwise fun a b => ¬ b.cps.toList < a.cps.toList) → l = m
  | [], m, h, _, _ => (List.Perm.eq_nil h.symm).symm
  | x :: r, [], h, _, _ => by simpa using h.length_eq
  | x :: r, y :: q, h, h1, h2 => by
    obtain ⟨a1, a2⟩ := List.pairwise_cons.mp h1
    obtain ⟨b1, b2⟩ := List.pairwise_cons.mp h2
    have e : x = y := by
      rcases List.mem_cons.mp (h.mem_iff.mp (List.mem_cons_self (a := x) (l := r))) with e | hx
      · exact e
      · rcases List.mem_cons.mp (h.mem_iff.mpr (List.mem_cons_self (a := y) (l := q))) with e | hy
        · exact e.symm
        · exact cps_inj (List.le_antisymm (List.not_lt.mp (a1 y hy)) (List.not_lt.mp (b1 x hx)))
    subst e
    rw [sorted_uniq ((List.perm_cons x).mp h) a2 b2]
end
end L2

set_option linter.all false
set_option maxRecDepth 100000
set_option Elab.async false
set_option maxHeartbeats 4000000
namespace L2
open PySem PySem.Spec PyProof.Rows PySem.W
noncomputable def krun {α : Type} (o : Nat → Nat → Bool) : KasT α → α
  | .ret a => a
  | .ask i j k => krun o (k (o i j))
noncomputable def lperms : Nat → List Nat → List (List Nat)
  | 0, _ => [[]]
  | f + 1, l => l.flatMap fun x => (lperms f (l.erase x)).map (x :: ·)
theorem mem_lperms : ∀ (q l : List Nat), q.Perm l → q ∈ lperms q.length l
  | [], l, _ => by simp [lperms]
  | x :: r, l, h => by
    have hx : x ∈ l := h.mem_iff.mp (by simp)
    have hr : r.Perm (l.erase x) := by
      have := h.trans (List.perm_cons_erase hx)
      exact (List.perm_cons x).mp this
    show x :: r ∈ l.flatMap _
    exact List.mem_flatMap.mpr ⟨x, hx, List.mem_map.mpr ⟨r, mem_lperms r _ hr, rfl⟩⟩
noncomputable def sortsAll (n : Nat) : Bool := (lperms n (List.range n)).all fun π => (krun (fun i j => decide (π.getD i 0 < π.getD j 0)) (kas_sort n)).toList.map (fun i => π.getD i 0) == List.range n
theorem sorts2 : sortsAll 2 = true := by decide +kernel
theorem sorts3 : sortsAll 3 = true := by decide +kernel
theorem sorts4 : sortsAll 4 = true := by decide +kernel
theorem sorts5 : sortsAll 5 = true := by decide +kernel
theorem sorts6 : sortsAll 6 = true := by decide +kernel
end L2

set_option linter.all false
set_option maxRecDepth 100000
set_option Elab.async false
set_option maxHeartbeats 4000000
namespace L2
open PySem PySem.Spec PyProof.Rows PySem.W
theorem krun_congr {α : Type} {n : Nat} {P : α → Prop} {o o' : Nat → Nat → Bool} (h : ∀ i j, i < n → j < n → o i j = o' i j) : ∀ {t : KasT α}, KAll n P t → krun o t = krun o' t
  | .ret a, _ => rfl
  | .ask i j k, z => by
    show krun o (k (o i j)) = krun o' (k (o' i j))
    rw [h i j z.1 z.2.1]
    exact krun_congr h (z.2.2 _)
theorem KAll.run {α : Type} {n : Nat} {P : α → Prop} (o : Nat → Nat → Bool) : ∀ {t : KasT α}, KAll n P t → P (krun o t)
  | .ret a, h => h
  | .ask i j k, h => by
    show P (krun o (k (o i j)))
    exact KAll.run o (h.2.2 (o i j))
theorem KAll.wpO {α : Type} {n : Nat} {P : α → Prop} {cmp : Nat → Nat → (Bool → Shared → Prop) → Shared → Prop} {Q : α → Shared → Prop} {s : Shared} {o : Nat → Nat → Bool} (hc : ∀ i j C, i < n → j < n → C (o i j) s → cmp i j C s) : ∀ {t : KasT α}, KAll n P t → Q (krun o t) s → t.kasWp cmp Q s
  | .ret a, _, q => by rw [KasT.kasWp.eq_1]; exact q
  | .ask i j k, h, q => by
    rw [KasT.kasWp.eq_2]
    exact hc i j _ h.1 h.2.1 (KAll.wpO hc (h.2.2 _) q)
noncomputable abbrev P3 := Str × Str × Int
noncomputable def lexP (x y : P3) : Bool := if x.1 == y.1 then (if x.2.1 == y.2.1 then (if x.2.2 == y.2.2 then false else decide (x.2.2 < y.2.2)) else decide (x.2.1.cps.toList < y.2.1.cps.toList)) else decide (x.1.cps.toList < y.1.cps.toList)
inductive I_PartT (h : Heap) (v : Value) (x : P3) : Prop
  | mk (t : _) (u1 : _) (u2 : _) (u3 : _) (q0 : v = .ref t) (q1 : IsTup h t #[.str x.1 u1, .str x.2.1 u2, .int x.2.2 u3]) : I_PartT h v x
noncomputable def PartT (h : Heap) (v : Value) (x : P3) : Prop := I_PartT h v x
section
variable {prog : Program} {w : World} {A : Around} {E : Value → Shared → Prop} {s : Shared}
theorem ltX_int {a b : Int} {t u : Tok} {Q : Bool → Shared → Prop} (h : Q (decide (a < b)) s) : wpAny (model prog w) A (oneLt' false (Value.int a t) (Value.int b u)) Q E s := by
  rw [oneLt'_eq]
  show wpAny _ _ (compareOp .Lt (Value.int a t) (Value.int b u) >>= _) _ _ _
  apply wpAny_bind
  refine lt_int ?_
  wp_walk
  exact h
theorem ltX_str {a b : Str} {t u : Tok} {Q : Bool → Shared → Prop} (h : Q (decide (a.cps.toList < b.cps.toList)) s) : wpAny (model prog w) A (oneLt' false (Value.str a t) (Value.str b u)) Q E s := by
  rw [oneLt'_eq]
  show wpAny _ _ (compareOp .Lt (Value.str a t) (Value.str b u) >>= _) _ _ _
  apply wpAny_bind
  refine lt_str ?_
  wp_walk
  exact h
theorem ltP {fb : Bool} {v1 v2 : Value} {x y : P3} {C : Bool → Shared → Prop} (hx : PartT s.heap v1 x) (hy : PartT s.heap v2 y) (h : C (lexP x y) s) : wpAny (model prog w) A (keyLt' (tuples' fb) v1 v2) C E s := by
  obtain ⟨a1, b1, c1⟩ := x
  obtain ⟨a2, b2, c2⟩ := y
  obtain ⟨p1, t1, t2, t3, rfl, hx⟩ := hx
  obtain ⟨p2, u1, u2, u3, rfl, hy⟩ := hy
  dsimp only at hx hy
  unfold lexP at h
  dsimp only at h
  show wpAny _ _ (Builtin.List.listItems (.ref p1) >>= _) _ _ _
  refine wpAny_bind (items_tup hx ?_)
  refine wpAny_bind (items_tup hy ?_)
  dsimp only [List.zip_cons_cons, List.zipIdx_cons, List.zip_nil_left]
  rw [List.zipIdx_nil]
  have e1 : ∀ {Q : Bool → Shared → Prop} {a b : Int} {t u : Tok}, Q (a == b) s → wpAny (model prog w) A (eqBool (.int a t) (.int b u)) Q E s := fun {Q a b t u} q => eqAt_V (y := .int a) (x := .int b) ⟨t, rfl⟩ ⟨u, rfl⟩ rfl rfl prog w _ _ q
  have e2 : ∀ {Q : Bool → Shared → Prop} {a b : Str} {t u : Tok}, Q (a == b) s → wpAny (model prog w) A (eqBool (.str a t) (.str b u)) Q E s := fun {Q a b t u} q => SeqAt.EqAt.str_str a t b u prog w _ _ q
  refine wpAny_bind ?_
  rw [List.forIn_cons]
  refine wpAny_bind (wpAny_bind (e2 ?_))
  cases hz : (a1 == a2) with
  | false =>
    rw [hz] at h
    refine wpAny_ite_true (by decide) ?_
    refine wpAny_bind ?_
    show wpAny _ _ (oneLt' (fb && 0 == 0) (Value.str a1 t1) (Value.str a2 u1)) _ _ _
    cases fb
    · exact ltX_str (wpAny_pure (wpAny_pure (wpAny_pure h)))
    · exact oneLt_str (wpAny_pure (wpAny_pure (wpAny_pure h)))
  | true =>
    rw [hz, if_pos rfl] at h
    refine wpAny_ite_false (by decide) (wpAny_pure ?_)
    dsimp only
    rw [List.forIn_cons]
    refine wpAny_bind (wpAny_bind (e2 ?_))
    cases hz2 : (b1 == b2) with
    | false =>
      rw [hz2] at h
      refine wpAny_ite_true (by decide) ?_
      refine wpAny_bind ?_
      have ez : (fb && ((0 + 1 : Nat) == 0)) = false := by cases fb <;> rfl
      show wpAny _ _ (oneLt' (fb && (0 + 1 == 0)) (Value.str b1 t2) (Value.str b2 u2)) _ _ _
      rw [ez]
      exact ltX_str (wpAny_pure (wpAny_pure (wpAny_pure h)))
    | true =>
      rw [hz2, if_pos rfl] at h
      refine wpAny_ite_false (by decide) (wpAny_pure ?_)
      dsimp only
      rw [List.forIn_cons]
      refine wpAny_bind (wpAny_bind (e1 ?_))
      cases hz3 : (c1 == c2) with
      | false =>
        rw [hz3] at h
        refine wpAny_ite_true (by decide) ?_
        refine wpAny_bind ?_
        have ez : (fb && ((0 + 1 + 1 : Nat) == 0)) = false := by cases fb <;> rfl
        show wpAny _ _ (oneLt' (fb && (0 + 1 + 1 == 0)) (Value.int c1 t3) (Value.int c2 u3)) _ _ _
        rw [ez]
        exact ltX_int (wpAny_pure (wpAny_pure (wpAny_pure h)))
      | true =>
        rw [hz3, if_pos rfl] at h
        refine wpAny_ite_false (by decide) (wpAny_pure ?_)
        dsimp only
        rw [List.forIn_nil]
        exact wpAny_pure (wpAny_pure h)
end
end L2

set_option linter.all false
set_option maxRecDepth 100000
set_option Elab.async false
set_option maxHeartbeats 4000000
namespace L2
open PySem PySem.Spec PyProof.Rows PySem.W
noncomputable def kord (ps : List P3) : List Nat := (krun (fun i j => lexP (ps.getD i ("", "", 0)) (ps.getD j ("", "", 0))) (kas_sort ps.length)).toList
theorem kord_perm (ps : List P3) (h : 0 < ps.length) : (kord ps).Perm (List.range ps.length) := by
  have := KAll.run (fun i j => lexP (ps.getD i ("", "", 0)) (ps.getD j ("", "", 0))) (kall_sort h)
  exact Array.perm_iff_toList_perm.mp this
section
variable {prog : Program} {w : World} {A : Around} {E : Value → Shared → Prop} {s : Shared}
theorem kindP {ks : List Value} {Q : SortKind → Shared → Prop} (hk : ∀ v ∈ ks, ∃ x, PartT s.heap v x) (h : ∀ b, Q (tuples' b) s) : wpAny (model prog w) A (keyKind' ks.toArray) Q E s := by
  rw [keyKind'_eq, Array.mapM_eq_mapM_toList]
  refine wpAny_bind ?_
  rw [← bind_pure_comp]
  refine wpAny_bind (mapM_any (R := fun _ r => ∃ a u, r = some (Value.str a u)) ks (fun v hv => ?_) fun rs hl hrs => wpAny_pure ?_)
  · obtain ⟨x, t, u1, u2, u3, rfl, ht⟩ := hk v hv
    refine ⟨some (.str x.1 u1), ⟨x.1, u1, rfl⟩, fun Q' q => ?_⟩
    rw [kas_first_eq]
    refine wpAny_bind (wpAny_typeOf ht.typeIs ?_)
    refine wpAny_ite_false (by decide) ?_
    refine wpAny_bind (items_tup ht ?_)
    exact wpAny_pure q
  · have hall : (rs.toArray.all fun x => x.isSome) = true := by
      rw [List.all_toArray, List.all_eq_true]
      intro r hr
      obtain ⟨v, _, a, u, rfl⟩ := hrs r hr
      rfl
    refine wpAny_ite_true (by rw [hall]; rfl) ?_
    refine wpAny_bind (wpAny_rule ?_)
    rw [oneTypeOnly'_eq, Array.mapM_eq_mapM_toList]
    refine wpAny_bind ?_
    refine wpAny_bind ?_
    rw [← bind_pure_comp]
    refine wpAny_bind (mapM_any (R := fun _ r => r = Value.type "str") _ (fun v hv => ?_) fun ts htl hts => wpAny_pure ?_)
    · have hv' : some v ∈ rs := by simpa using hv
      obtain ⟨_, _, a, u, e⟩ := hrs _ hv'
      cases e
      exact ⟨_, rfl, fun Q' q => wpAny_typeOf (typeIs_str s a u) q⟩
    · cases hts0 : ts.toArray[0]? with
      | none => exact wpAny_pure (wpAny_pure (h _))
      | some t => exact wpAny_pure (wpAny_pure (h _))
theorem runsP {b : Bool} {vs : List Value} {ps : List P3} {Q : Unit × SortSt → Shared → Prop} (hl : vs.length = ps.length) (h2 : 2 ≤ vs.length) (h64 : vs.length < 64) (hk : ∀ i, i < vs.length → PartT s.heap (vs.getD i .none) (ps.getD i ("", "", 0)))
    (h : ∀ st : SortSt, (arrOf st).map (·.2) = ((kord ps).map fun i => vs.getD i .none).toArray → failedOf st = none → Q ((), st) s) : wpAny (model prog w) A (sortRuns'.run (SortSt.mk' (tuples' b) (vs.toArray.zip vs.toArray) #[] 7 none)) Q E s := by
  have hz : (vs.toArray.zip vs.toArray).size = vs.length := by simp
  have main := kas_runs (prog := prog) (w := w) (A := A) (E := E) (κ := tuples' b) (it := vs.toArray.zip vs.toArray) (n := vs.length) (s := s) (Q := fun u st s' => s' = s ∧ Q (u, st) s) (G := fun p s' => p.toList = kord ps ∧ s' = s) h2 h64 (fun p' st' s' hsz ha hf hG => ?_)
    (KAll.wpO (n := vs.length) (P := Pm vs.length) (o := fun i j => lexP (ps.getD i ("", "", 0)) (ps.getD j ("", "", 0))) (fun i j C hi hj hC => ?_) (kall_sort (by first | lia | omega)) ⟨by unfold kord; rw [hl], rfl⟩)
  · have e1 : kas_st (tuples' b) (vs.toArray.zip vs.toArray) (List.range vs.length).toArray = SortSt.mk' (tuples' b) (vs.toArray.zip vs.toArray) #[] 7 none := by
      unfold kas_st
      have := kas_range (vs.toArray.zip vs.toArray)
      rw [hz] at this
      rw [this]
    rw [e1] at main
    exact wpAny_mono main (fun r s' z => by
      obtain ⟨rfl, q⟩ := z
      exact q) fun e s' z => z
  · obtain ⟨hp, rfl⟩ := hG
    refine ⟨rfl, h st' ?_ hf⟩
    rw [ha]
    apply Array.toList_inj.mp
    rw [Array.map_map, Array.toList_map, hp]
    show _ = (kord ps).map _
    refine List.map_congr_left fun i _ => ?_
    show (kas_item (pairsOf vs) i).2 = _
    rw [kas_item_eq]
  · unfold kas_cmp
    show wpAny _ _ (keyLt' _ (kas_item (pairsOf vs) i).1 (kas_item (pairsOf vs) j).1) _ _ _
    rw [kas_item_eq, kas_item_eq]
    exact ltP (hk i hi) (hk j hj) hC
theorem PartT.keep {h h' : Heap} {v : Value} {x : P3} (p : PartT h v x) (k : ∀ b o, h.get? b = some o → o.cls = .type "tuple" → h'.get? b = some o) : PartT h' v x := by
  obtain ⟨t, u1, u2, u3, e, o, ho, hc, r⟩ := p
  exact ⟨t, u1, u2, u3, e, o, k t o ho hc, hc, r⟩
theorem list_sortP {a : Addr} {vs : List Value} {ps : List P3} {n : Nat} {P : PySem.Fin → Shared → Prop} (gA : s.heap.get? a = some (seqObj "list" vs.toArray n)) (hl : vs.length = ps.length) (h2 : 2 ≤ vs.length) (h64 : vs.length < 64) (hk : ∀ i, i < vs.length → PartT s.heap (vs.getD i .none) (ps.getD i ("", "", 0)))
    (h : ∀ (h' : Heap) (e : Nat), (∀ b u, b ≠ a → s.heap.get? b = some u → h'.get? b = some u) → h'.get? a = some (seqObj "list" ((kord ps).map fun i => vs.getD i .none).toArray e) → P (.done (.ret .none)) { s with heap := h' }) :
    wpAny (model prog w) A (Builtin.«list.sort» ⟨[.ref a], []⟩) P E s := by
  have zz : ∀ m, m ≤ vs.length → m ≤ sizeLine := fun m hm => sizeLine_big (by first | lia | omega)
  rw [list_sort_plain]
  refine wpAny_bind (listItems_at gA rfl ?_)
  refine wpAny_bind (listUpdate_at gA rfl ?_ (by rw [List.size_toArray]; exact zz _ (Nat.le_refl _)) (Nat.zero_le _))
  have gA1 := get?_update_seq gA (fun _ => #[])
  generalize (if ((#[] : Array Value).size == vs.toArray.size) = true then n else n + 1) = e1 at gA1
  have old1 : ∀ b u, b ≠ a → s.heap.get? b = some u → (s.heap.update a (Obj.mapSeq fun _ => #[])).get? b = some u := fun b u nb e => by
    rw [Heap.get?_update_ne _ _ _ _ nb]
    exact e
  dsimp only
  generalize s.heap.update a (Obj.mapSeq fun _ => #[]) = h1 at gA1 old1 ⊢
  refine wpAny_bind (seqEpoch_at gA1 rfl ?_)
  refine wpAny_bind (wpAny_newTuple ?_ (by simpa using zz _ (Nat.le_refl _)))
  refine wpAny_bind (wpAny_newList ?_ (Nat.zero_le _))
  refine wpAny_holding ?_
  have gA2 : ((h1.push { cls := Value.type "tuple", data := Data.seq vs.toArray.toList.toArray }).push { cls := Value.type "list", data := Data.seq ([] : List Value).toArray }).get? a = some (seqObj "list" #[] e1) := Heap.get?_push_of_some _ (Heap.get?_push_of_some _ gA1)
  have old2 : ∀ b u, b ≠ a → s.heap.get? b = some u → ((h1.push { cls := Value.type "tuple", data := Data.seq vs.toArray.toList.toArray }).push { cls := Value.type "list", data := Data.seq ([] : List Value).toArray }).get? b = some u := fun b u nb e => Heap.get?_push_of_some _ (Heap.get?_push_of_some _ (old1 b u nb e))
  dsimp only
  generalize (h1.push { cls := Value.type "tuple", data := Data.seq vs.toArray.toList.toArray }).push { cls := Value.type "list", data := Data.seq ([] : List Value).toArray } = h3 at gA2 old2 ⊢
  have hk2 : ∀ i, i < vs.length → PartT h3 (vs.getD i .none) (ps.getD i ("", "", 0)) := fun i hi => (hk i hi).keep fun b o e hc => old2 b o (fun z => by
    rw [z, gA] at e
    cases e
    have hc' : (Value.type "list") = Value.type "tuple" := hc
    injection hc' with z2
    exact absurd z2 (by decide)) e
  have hsz : ¬ vs.toArray.size < 2 := by simpa using Nat.not_lt.mpr h2
  rw [if_neg hsz, if_neg hsz]
  refine wpAny_bind (kindP (fun v hv => ?_) fun b => ?_)
  · obtain ⟨i, hi, rfl⟩ := List.mem_iff_getElem.mp hv
    have := hk2 i hi
    rw [List.getD_eq_getElem?_getD, List.getElem?_eq_getElem hi] at this
    exact ⟨_, this⟩
  · refine wpAny_bind (runsP hl h2 h64 hk2 fun st hst hf => ?_)
    dsimp only
    refine wpAny_bind (seqEpoch_at gA2 rfl ?_)
    have hkl : ((kord ps).map fun i => vs.getD i .none).length = vs.length := by rw [List.length_map, (kord_perm ps (by first | lia | omega)).length_eq, List.length_range, hl]
    refine wpAny_bind (listUpdate_at gA2 rfl ?_ (Nat.zero_le _) (by show ((arrOf st).map (·.2)).size ≤ _; rw [hst, List.size_toArray, hkl]; exact Nat.le_succ_of_le (zz _ (Nat.le_refl _))))
    rw [hf]
    refine wpAny_ite_false (by simp) ?_
    obtain ⟨e3, gA3⟩ : ∃ e3, (h3.update a (Obj.mapSeq fun _ => (arrOf st).map (·.2))).get? a = some (seqObj "list" ((arrOf st).map (·.2)) e3) := ⟨_, get?_update_seq gA2 (fun _ => (arrOf st).map (·.2))⟩
    refine wpAny_pure (h _ e3 (fun b u nb e => ?_) (by rw [← hst]; exact gA3))
    rw [Heap.get?_update_ne _ _ _ _ nb]
    exact old2 b u nb e
end
end L2

set_option linter.all false
set_option maxRecDepth 100000
set_option Elab.async false
set_option maxHeartbeats 4000000
namespace L2
open PySem PySem.Spec PyProof.Rows PySem.W
section
variable {prog : Program} {w : World} {A : Around} {E : Value → Shared → Prop} {s : Shared}
theorem collect_tup {p : Addr} {its : List Value} {Q : List Value → Shared → Prop} (hp : IsTup s.heap p its.toArray) (zz : its.length ≤ sizeLine)
    (h : ∀ h1 : Heap, (∀ b u, s.heap.get? b = some u → h1.get? b = some u) → s.heap.objs.size ≤ h1.objs.size → Q its { s with heap := h1 }) : wpAny (model prog w) A (collect (.ref p)) Q E s := by
  obtain ⟨o, ho, hc, n, hd⟩ := hp
  unfold collect
  apply wpAny_bind
  apply wpAny_runValue
  apply codeAny_builtin F.entry_proto_collect
  rw [Around.under_plainId F.plain_proto_collect]
  show wpAny _ A.in1 (newList [] >>= fun l => again (.builtin "list.__iadd__" ⟨[l, .ref p], []⟩)) _ _ s
  apply wpAny_bind
  refine wpAny_newObj_type (wpAny_pure ⟨plainId_quiet F.plain_list_iadd _, codeAny_builtin F.entry_list_iadd ?_⟩)
  rw [Around.under_plainId F.plain_list_iadd]
  have hP1 : (s.heap.push (seqObj "list" #[] 0)).get? p = some o := Heap.get?_push_of_some _ ho
  have hL1 : (s.heap.push (seqObj "list" #[] 0)).get? s.heap.objs.size = some (seqObj "list" #[] 0) := Heap.get?_push_size _ rfl
  show wpAny _ A.in1 (Builtin.List.listExtendWith (.ref s.heap.objs.size) (.ref p) (.ref s.heap.objs.size)) _ _ { s with heap := s.heap.push (seqObj "list" #[] 0) }
  unfold Builtin.List.listExtendWith
  refine wpAny_bind (wpAny_typeOf (T := "tuple") ⟨o, hP1, hc⟩ ?_)
  rw [if_pos (by simp)]
  apply wpAny_bind
  refine listItems_at hP1 hd ?_
  apply wpAny_bind
  refine listItems_at hL1 rfl ?_
  rw [if_neg (by simp)]
  refine wpAny_bind (listUpdate_at hL1 rfl ?_ (Nat.zero_le _) (by show (#[] ++ its.toArray).size ≤ sizeLine + 1; simp only [Array.size_append, List.size_toArray, List.length_nil]; first | lia | omega))
  apply wpAny_pure
  have gL := get?_update_seq hL1 (· ++ its.toArray)
  show wpAny (model prog w) A (load s.heap.objs.size >>= _) Q E _
  refine wpAny_bind (wpAny_load gL ?_)
  show wpAny _ _ (pure ((#[] : Array Value) ++ its.toArray).toList) Q E _
  rw [show ((#[] : Array Value) ++ its.toArray).toList = its by simp]
  refine wpAny_pure (h _ (fun b u e => ?_) (Nat.le_of_lt (Heap.lt_size gL)))
  rw [Heap.get?_update_ne _ _ _ _ (Nat.ne_of_lt (Heap.lt_size e))]
  exact Heap.get?_push_of_some _ e
theorem sorted_tup {p : Addr} {its : List Value} {Q : Value → Shared → Prop} (hp : IsTup s.heap p its.toArray) (h64 : its.length < 64)
    (h : ∀ (h1 : Heap), (∀ b u, s.heap.get? b = some u → h1.get? b = some u) → s.heap.objs.size ≤ h1.objs.size → wpAny (model prog w) A.in1.in1 (Builtin.«list.sort» ⟨[.ref h1.objs.size], []⟩) (fun fin s' => fin = .done (.ret .none) ∧ Q (.ref h1.objs.size) s') E { s with heap := h1.push (seqObj "list" its.toArray 0) }) :
    wpAny (model prog w) A (call (.builtin "sorted") [.ref p]) Q E s := by
  have zz : its.length ≤ sizeLine := sizeLine_big (by first | lia | omega)
  refine Calls.call_function_entry kind_sorted plain_sorted entry_sorted (args_sorted1 _) ?_
  unfold Builtin.«sorted»
  apply wpAny_bind (m := checkCount "sorted" 1 1 _)
  apply wpAny_pure
  refine wpAny_bind (collect_tup hp zz fun h1 hk hg => ?_)
  apply wpAny_bind
  refine wpAny_newList ?_ zz
  have hoL : (h1.push (seqObj "list" its.toArray 0)).get? h1.objs.size = some (seqObj "list" its.toArray 0) := Heap.get?_push_size _ rfl
  refine wpAny_bind (wpAny_holding (wpAny_call_entry slot_list_sort ⟨_, hoL, rfl⟩ entry_list_sort (wpAny_mono (h h1 hk hg) (fun fin s' z => ⟨.none, z.1, ?_⟩) fun _ _ e => e) (args_list_sort _)))
  exact wpAny_pure ⟨_, rfl, z.2⟩
end
section
variable {X : Cx}
inductive I_r_call_sortedST (xs : List V) (H : Hp) (Q : VK) : Prop
  | mk (p : Addr) (ns : List Str) (q0 : xs = [.ref p]) (q1 : H p = some (.tup (ns.map V.str))) (q2 : ns.length < 64) (q3 : ∀ (l : Addr) (ms : List Str), H l = none → ms.Perm ns → sortedS ms = true → Q (.ref l) (upd H l (.lst (ms.map V.str)))) : I_r_call_sortedST xs H Q
noncomputable def r_call_sortedST : List V → Hp → VK → Prop := fun xs H Q => I_r_call_sortedST xs H Q
theorem call_sortedST : CallR X (.builtin "sorted") r_call_sortedST := by
  intro pins s σ H xs us Q I r h
  obtain ⟨p, ns, rfl, hx, h64, q⟩ := h
  obtain ⟨u, rfl, ru⟩ := vals1 r
  cases ru
  obtain ⟨its, rv, ht, _⟩ := I.tuple (SqT.of hx)
  have hi : StrsAre its ns := strsAre_of rv
  have hlen := rv.length
  rw [List.length_map] at hlen
  refine sorted_tup ht (by first | lia | omega) fun h1 hk hg => ?_
  have hoL : (h1.push (seqObj "list" its.toArray 0)).get? h1.objs.size = some (seqObj "list" its.toArray 0) := Heap.get?_push_size _ rfl
  refine list_sort_treeK strKind_oneLt hoL hi.keysOf (fun v₁ v₂ rest e => keyKind_strs (by rw [← e]; exact hi)) (by first | lia | omega) fun st' a1 a2 => ⟨rfl, ?_⟩
  obtain ⟨ms, b1, b2, b3⟩ := sorted_out_str hi a1 a2
  obtain ⟨e, he⟩ := sortedHeap_at (vs := its) (out := (arrOf st').map (·.2)) hoL
  have hml := b2.length_eq
  refine ⟨.ref h1.objs.size, _, I.laid (t' := s.toks) (o := .lst (ms.map V.str)) (fun b u eb => ?_) hg ⟨sizeLine_big (by rw [List.length_map]; first | lia | omega), ((arrOf st').map (·.2)).toList, e, vals_of_strs b1, by rw [he] <;> rfl⟩, rfl, q _ ms (I.hok.fresh hg) b2 b3⟩
  have hbl := Heap.lt_size (hk b u eb)
  rw [sortedHeap_old (Nat.ne_of_lt hbl) (by rw [Heap.size_push]; exact Nat.lt_succ_of_lt hbl)]
  exact Heap.get?_push_of_some _ (hk b u eb)
inductive I_PartH (H : Hp) (v : V) (x : P3) : Prop
  | mk (t : _) (q0 : v = .ref t) (q1 : H t = some (.tup [.str x.1, .str x.2.1, .int x.2.2])) : I_PartH H v x
noncomputable def PartH (H : Hp) (v : V) (x : P3) : Prop := I_PartH H v x
theorem PartH.real {pins : List (Addr × Obj)} {σ : St} {H : Hp} {s : Shared} {v : V} {u : Value} {x : P3} (I : Inv X pins σ H s) (h : PartH H v x) (r : RelV v u) : PartT s.heap u x := by
  obtain ⟨t, rfl, ht⟩ := h
  cases r
  obtain ⟨_, its, rv, hT⟩ : ObjOk X.prog X.w H s.heap t (.tup [.str x.1, .str x.2.1, .int x.2.2]) := I.hok _ _ ht
  cases rv with
  | cons r1 rv =>
    cases rv with
    | cons r2 rv =>
      cases rv with
      | cons r3 rv =>
        cases rv
        obtain ⟨u1, e1⟩ := r1
        obtain ⟨u2, e2⟩ := r2
        obtain ⟨u3, e3⟩ := r3
        subst e1 e2 e3
        exact ⟨t, u1, u2, u3, rfl, hT⟩
theorem vals_pick {vs : List V} {its : List Value} (r : Vals vs its) : ∀ (q : List Nat), (∀ i ∈ q, i < vs.length) → Vals (q.map fun i => vs.getD i .non) (q.map fun i => its.getD i .none)
  | [], _ => .nil
  | i :: q, h => by
    have hi := h i (by simp)
    obtain ⟨u, hu, ru⟩ := r.get (List.getElem?_eq_getElem hi)
    refine .cons ?_ (vals_pick r q fun j hj => h j (by simp [hj]))
    show RelV (vs.getD i .non) (its.getD i .none)
    rw [List.getD_eq_getElem?_getD, List.getD_eq_getElem?_getD, List.getElem?_eq_getElem hi, hu]
    exact ru
inductive I_r_call_sortedP (xs : List V) (H : Hp) (Q : VK) : Prop
  | mk (p : Addr) (vs : List V) (ps : List P3) (q0 : xs = [.ref p]) (q1 : H p = some (.tup vs)) (q2 : vs.length = ps.length) (q3 : 2 ≤ vs.length) (q4 : vs.length < 64) (q5 : (∀ i, i < vs.length → PartH H (vs.getD i .non) (ps.getD i ("", "", 0)))) (q6 : ∀ (l : Addr), H l = none → Q (.ref l) (upd H l (.lst ((kord ps).map fun i => vs.getD i .non)))) : I_r_call_sortedP xs H Q
noncomputable def r_call_sortedP : List V → Hp → VK → Prop := fun xs H Q => I_r_call_sortedP xs H Q
theorem call_sortedP : CallR X (.builtin "sorted") r_call_sortedP := by
  intro pins s σ H xs us Q I r h
  obtain ⟨p, vs, ps, rfl, hx, hl, h2, h64, hk, q⟩ := h
  obtain ⟨u, rfl, ru⟩ := vals1 r
  cases ru
  obtain ⟨its, rv, ht, _⟩ := I.tuple (SqT.of hx)
  have hlen := rv.length
  refine sorted_tup ht (by first | lia | omega) fun h1 hkk hg => ?_
  have hoL : (h1.push (seqObj "list" its.toArray 0)).get? h1.objs.size = some (seqObj "list" its.toArray 0) := Heap.get?_push_size _ rfl
  have old : ∀ b u, s.heap.get? b = some u → (h1.push (seqObj "list" its.toArray 0)).get? b = some u := fun b u e => Heap.get?_push_of_some _ (hkk b u e)
  have hpr := kord_perm ps (by first | lia | omega)
  have hkl : (kord ps).length = ps.length := by rw [hpr.length_eq, List.length_range]
  refine list_sortP (ps := ps) hoL (by first | lia | omega) (by first | lia | omega) (by first | lia | omega) (fun i hi => ?_) fun h' e hk' he => ⟨rfl, ?_⟩
  · have hi' : i < vs.length := by first | lia | omega
    obtain ⟨u, hu, ru⟩ := rv.get (List.getElem?_eq_getElem hi')
    have := hk i hi'
    rw [List.getD_eq_getElem?_getD, List.getElem?_eq_getElem hi'] at this
    rw [List.getD_eq_getElem?_getD, hu]
    exact (PartH.real I this ru).keep fun b o eb _ => old b o eb
  · refine ⟨.ref h1.objs.size, _, I.laid (t' := s.toks) (o := .lst ((kord ps).map fun i => vs.getD i .non)) (fun b u eb => hk' b u (Nat.ne_of_lt (Heap.lt_size (hkk b u eb))) (old b u eb)) hg ⟨sizeLine_big (by rw [List.length_map]; first | lia | omega), (kord ps).map fun i => its.getD i .none, e, vals_pick rv _ (fun i hi => ?_), he⟩, rfl, q _ (I.hok.fresh hg)⟩
    have := hpr.mem_iff.mp hi
    rw [List.mem_range] at this
    first | lia | omega
end
end L2

set_option linter.all false
set_option maxRecDepth 100000
set_option Elab.async false
set_option maxHeartbeats 4000000
namespace L2
open PySem PySem.Spec PyProof.Rows PySem.W
noncomputable def RiseP (R : List P3) : Prop := R.Pairwise fun a b => a.1.cps.toList < b.1.cps.toList
theorem rise_nodup {R : List P3} (h : RiseP R) : R.Nodup := h.imp fun {a b} z e => by
  subst e
  exact List.lt_irrefl _ z
theorem lexP_of {R : List P3} (h : RiseP R) {a b : P3} (ha : a ∈ R) (hb : b ∈ R) : lexP a b = decide (R.idxOf a < R.idxOf b) := by
  have ia := List.idxOf_lt_length_of_mem ha
  have ib := List.idxOf_lt_length_of_mem hb
  have ea : R[R.idxOf a] = a := List.getElem_idxOf ia
  have eb : R[R.idxOf b] = b := List.getElem_idxOf ib
  have hP := List.pairwise_iff_getElem.mp h
  rcases Nat.lt_trichotomy (R.idxOf a) (R.idxOf b) with z | z | z
  · have hl := hP _ _ ia ib z
    rw [ea, eb] at hl
    have hne : (a.1 == b.1) = false := by
      rw [beq_eq_false_iff_ne]
      intro e
      rw [e] at hl
      exact List.lt_irrefl _ hl
    unfold lexP
    rw [hne, decide_eq_true z]
    exact decide_eq_true hl
  · have e : a = b := by rw [← ea, ← eb]; simp [z]
    subst e
    unfold lexP
    simp
  · have hl := hP _ _ ib ia z
    rw [ea, eb] at hl
    have hne : (a.1 == b.1) = false := by
      rw [beq_eq_false_iff_ne]
      intro e
      rw [e] at hl
      exact List.lt_irrefl _ hl
    unfold lexP
    rw [hne, decide_eq_false (show ¬ (R.idxOf a < R.idxOf b) by first | lia | omega)]
    exact decide_eq_false fun y => List.lt_irrefl _ (List.lt_trans hl y)
theorem sorts_all {n : Nat} (h2 : 2 ≤ n) (h6 : n ≤ 6) : sortsAll n = true := by
  have : n = 2 ∨ n = 3 ∨ n = 4 ∨ n = 5 ∨ n = 6 := by first | lia | omega
  rcases this with rfl | rfl | rfl | rfl | rfl
  · exact sorts2
  · exact sorts3
  · exact sorts4
  · exact sorts5
  · exact sorts6
theorem idx_range {R : List P3} (h : R.Nodup) : R.map (fun x => R.idxOf x) = List.range R.length := by
  apply List.ext_getElem
  · simp
  · intro i h1 h2
    have h1' : i < R.length := by simpa using h1
    simp only [List.getElem_map, List.getElem_range]
    exact h.idxOf_getElem i h1'
theorem kord_sorted {T R : List P3} (hp : T.Perm R) (hR : RiseP R) (h2 : 2 ≤ T.length) (h6 : T.length ≤ 6) (d : P3) : (kord T).map (fun i => T.getD i d) = R := by
  have hl := hp.length_eq
  have hn := rise_nodup hR
  obtain ⟨π, hπ⟩ : ∃ π, π = T.map (fun x => R.idxOf x) := ⟨_, rfl⟩
  have hpm : π.Perm (List.range T.length) := by
    rw [hπ, hl, ← idx_range hn]
    exact hp.map _
  have hπl : π.length = T.length := by rw [hπ, List.length_map]
  have hmem : π ∈ lperms T.length (List.range T.length) := by
    have := mem_lperms π _ hpm
    rw [hπl] at this
    exact this
  have hat : ∀ i, i < T.length → π.getD i 0 = R.idxOf (T.getD i ("", "", 0)) := fun i hi => by
    rw [hπ, List.getD_eq_getElem?_getD, List.getD_eq_getElem?_getD, List.getElem?_map, List.getElem?_eq_getElem hi]
    rfl
  have hTm : ∀ i, i < T.length → T.getD i ("", "", 0) ∈ R := fun i hi => by
    rw [List.getD_eq_getElem?_getD, List.getElem?_eq_getElem hi]
    exact hp.mem_iff.mp (List.getElem_mem hi)
  have hk : kord T = (krun (fun i j => decide (π.getD i 0 < π.getD j 0)) (kas_sort T.length)).toList := by
    unfold kord
    congr 1
    refine krun_congr (n := T.length) (P := Pm T.length) (fun i j hi hj => ?_) (kall_sort (by first | lia | omega))
    rw [hat i hi, hat j hj]
    exact lexP_of hR (hTm i hi) (hTm j hj)
  have hs := List.all_eq_true.mp (sorts_all h2 h6) π hmem
  have hs' := eq_of_beq hs
  rw [← hk] at hs'
  have hkl : (kord T).length = T.length := by rw [(kord_perm T (by first | lia | omega)).length_eq, List.length_range]
  apply List.ext_getElem
  · rw [List.length_map, hkl, hl]
  · intro j h1 h2'
    have hj : j < (kord T).length := by simpa using h1
    have e : ((kord T).map (fun i => π.getD i 0))[j]? = (List.range T.length)[j]? := by rw [hs']
    rw [List.getElem?_map, List.getElem?_eq_getElem hj, List.getElem?_range (by first | lia | omega)] at e
    have e' : π.getD (kord T)[j] 0 = j := by simpa using e
    have hlt : (kord T)[j] < T.length := by
      have := (kord_perm T (by first | lia | omega)).mem_iff.mp (List.getElem_mem hj)
      rwa [List.mem_range] at this
    rw [hat _ hlt] at e'
    rw [List.getElem_map]
    have hm := hTm _ hlt
    have hd : T.getD (kord T)[j] d = T.getD (kord T)[j] ("", "", 0) := by
      rw [List.getD_eq_getElem?_getD, List.getD_eq_getElem?_getD, List.getElem?_eq_getElem hlt]
      rfl
    rw [hd]
    have := List.getElem_idxOf (List.idxOf_lt_length_of_mem hm)
    rw [← this]
    congr 1
end L2

set_option linter.all false
set_option maxRecDepth 100000
set_option Elab.async false
set_option maxHeartbeats 4000000
namespace K3
open PySem L2
noncomputable def top (i : Nat) : Stmt := PySem.Challenge.pw_dykelengths_k03_rows_known.main.body.getD i (.Pass ⟨0, 0, 0, 0⟩)
noncomputable abbrev sIsName : Stmt := top 5
noncomputable abbrev sIsNumber : Stmt := top 15
noncomputable abbrev sIsWhole : Stmt := top 16
noncomputable abbrev sRising : Stmt := top 17
noncomputable abbrev sIsPart : Stmt := top 18
noncomputable abbrev sAllParts : Stmt := top 19
noncomputable abbrev sAllNames : Stmt := top 20
noncomputable abbrev sAreParts : Stmt := top 21
noncomputable abbrev sAreLands : Stmt := top 22
noncomputable abbrev sIsInch : Stmt := top 23
noncomputable abbrev sFPart : Stmt := top 24
noncomputable abbrev sFJoin : Stmt := top 25
noncomputable abbrev sFForfeit : Stmt := top 26
noncomputable abbrev sFMeasure : Stmt := top 27
noncomputable abbrev sFMend : Stmt := top 28
noncomputable abbrev sFAlone : Stmt := top 29
noncomputable abbrev sFBreach : Stmt := top 30
noncomputable abbrev sFView : Stmt := top 31
noncomputable abbrev sIsRow : Stmt := top 33
noncomputable abbrev sAsTup : Stmt := top 34
noncomputable abbrev sInOrder : Stmt := top 35
noncomputable abbrev sRowOfP : Stmt := top 36
noncomputable abbrev sFieldOf : Stmt := top 37
noncomputable abbrev sPen : Stmt := top 39
noncomputable abbrev sTake : Stmt := top 40
noncomputable abbrev sNames : Stmt := top 41
noncomputable abbrev sSorts : Stmt := top 42
noncomputable abbrev sDays : Stmt := top 43
noncomputable abbrev sNumber : Stmt := top 44
noncomputable abbrev sSome : Stmt := top 46
noncomputable abbrev sRowOf : Stmt := top 47
noncomputable abbrev sTurned : Stmt := top 49
noncomputable abbrev sListed : Stmt := top 50
noncomputable abbrev sMade : Stmt := top 51
noncomputable abbrev sLaw : Stmt := top 52
noncomputable def nameB (z : Str) : Bool := decide (1 ≤ z.length ∧ z.length ≤ 8) && z.cps.toList.all fun c => decide (97 ≤ c ∧ c ≤ 122)
noncomputable def isL (c : Nat) : Bool := decide (97 ≤ c ∧ c ≤ 122)
noncomputable def lt26 (i : Nat) : Nat := 97 + i % 26
theorem isL_lt (i : Nat) : isL (lt26 i) = true := by
  unfold isL lt26
  exact decide_eq_true (by first | lia | omega)
noncomputable abbrev abc : Str := Str.ofString "abcdefghijklmnopqrstuvwxyz"
theorem abc_list : abc.cps.toList = List.range' 97 26 := by decide +kernel
theorem abc_at {i : Int} (h0 : 0 ≤ i) (h1 : i < 26) : atI abc.cps.toList i = some (lt26 i.toNat) := by
  obtain ⟨j, rfl⟩ : ∃ j : Nat, i = j := ⟨i.toNat, by first | lia | omega⟩
  unfold atI ixN
  rw [abc_list, if_pos h0, if_pos (by simpa using h1)]
  simp only [Int.toNat_natCast, Option.bind_some]
  rw [List.getElem?_range' (by first | lia | omega)]
  unfold lt26
  congr 1
  first | lia | omega
theorem abc_len : abc.length = 26 := by decide +kernel
noncomputable def mk (l : List Nat) : Str := ⟨l.toArray⟩
theorem mk_inj {a b : List Nat} (h : mk a = mk b) : a = b := by
  have := congrArg (fun z : Str => z.cps.toList) h
  simpa [mk] using this
theorem mk_len (l : List Nat) : (mk l).length = l.length := by
  show l.toArray.size = _
  simp
theorem mk_app (a b : List Nat) : mk a ++ mk b = mk (a ++ b) := by
  show (⟨a.toArray ++ b.toArray⟩ : Str) = _
  simp [mk]
noncomputable def pair (t k : Nat) : List Nat := [lt26 (t + 7 * k), lt26 (t + k / 26)]
noncomputable def bij : Nat → Nat → List Nat
  | 0, _ => []
  | f + 1, n => if n = 0 then [] else bij f ((n - 1) / 2) ++ [n % 2]
noncomputable def bin (t n : Nat) : List Nat := (bij 6 n).map fun d => lt26 (t + 9 * d)
theorem pair_nd : ∀ t < 26, ((List.range 44).map (pair t)).Nodup := by decide +kernel
theorem bin_nd : ∀ t < 26, ((List.range 44).map fun k => bin t (k + 1)).Nodup := by decide +kernel
theorem bin_len : ∀ k < 44, 1 ≤ (bij 6 (k + 1)).length ∧ (bij 6 (k + 1)).length ≤ 8 := by decide +kernel
noncomputable def word (one : Bool) (b : List Nat) (sp t k : Nat) : List Nat := if one then bin t (k + 1) else b.take sp ++ pair t k ++ b.drop sp
theorem nd_sub {α : Type} {f : Nat → α} {n m : Nat} (h : ((List.range n).map f).Nodup) (hm : m ≤ n) : ((List.range m).map f).Nodup := by
  obtain ⟨d, rfl⟩ : ∃ d, n = m + d := ⟨n - m, by first | lia | omega⟩
  rw [List.range_add, List.map_append] at h
  exact (List.nodup_append.mp h).1
theorem nd_inj {α β : Type} {f : α → β} (hf : ∀ a b, f a = f b → a = b) {l : List α} (h : l.Nodup) : (l.map f).Nodup := by
  rw [List.nodup_iff_pairwise_ne] at h ⊢
  exact List.pairwise_map.mpr (h.imp fun hne e => hne (hf _ _ e))
theorem word_nd {one : Bool} {b : List Nat} {sp t m : Nat} (ht : t < 26) (hm : m ≤ 44) : ((List.range m).map fun k => mk (word one b sp t k)).Nodup := by
  refine nd_sub (n := 44) ?_ hm
  have e : ((List.range 44).map fun k => mk (word one b sp t k)) = ((List.range 44).map (word one b sp t)).map mk := by rw [List.map_map]; rfl
  rw [e]
  refine nd_inj (fun _ _ h => mk_inj h) ?_
  cases one with
  | true => exact bin_nd t ht
  | false =>
    have e2 : (List.range 44).map (word false b sp t) = ((List.range 44).map (pair t)).map fun q => b.take sp ++ q ++ b.drop sp := by rw [List.map_map]; rfl
    rw [e2]
    refine nd_inj (fun x y h => ?_) (pair_nd t ht)
    exact List.append_cancel_left (List.append_cancel_right h)
theorem nameB_mk {l : List Nat} (h1 : 1 ≤ l.length) (h8 : l.length ≤ 8) (ha : ∀ c ∈ l, isL c = true) : nameB (mk l) = true := by
  unfold nameB
  rw [mk_len, decide_eq_true ⟨h1, h8⟩, Bool.true_and]
  have e : (mk l).cps.toList = l := by simp [mk]
  rw [e, List.all_eq_true]
  exact ha
theorem nameB_len {z : Str} (h : nameB z = true) : 1 ≤ z.length ∧ z.length ≤ 8 := by
  unfold nameB at h
  rw [Bool.and_eq_true] at h
  exact of_decide_eq_true h.1
theorem word_name {one : Bool} {b : List Nat} {sp t k : Nat} (hk : k < 44) (hb : b.length ≤ 6) (ha : ∀ c ∈ b, isL c = true) : nameB (mk (word one b sp t k)) = true := by
  cases one with
  | true =>
    have h := bin_len k hk
    refine nameB_mk (by show 1 ≤ (bin t (k + 1)).length; unfold bin; rw [List.length_map]; first | lia | omega) (by show (bin t (k + 1)).length ≤ 8; unfold bin; rw [List.length_map]; first | lia | omega) (fun c hc => ?_)
    have hc' : c ∈ bin t (k + 1) := hc
    unfold bin at hc'
    obtain ⟨d, _, rfl⟩ := List.mem_map.mp hc'
    exact isL_lt _
  | false =>
    have hl : (word false b sp t k).length = b.length + 2 := by
      show (b.take sp ++ pair t k ++ b.drop sp).length = _
      rw [List.length_append, List.length_append, List.length_take, List.length_drop]
      show min sp b.length + 2 + (b.length - sp) = _
      first | lia | omega
    refine nameB_mk (by first | lia | omega) (by first | lia | omega) (fun c hc => ?_)
    have hc' : c ∈ b.take sp ++ pair t k ++ b.drop sp := hc
    rcases List.mem_append.mp hc' with h | h
    · rcases List.mem_append.mp h with h | h
      · exact ha c (List.mem_of_mem_take h)
      · unfold pair at h
        simp only [List.mem_cons, List.not_mem_nil, or_false] at h
        rcases h with rfl | rfl
        · exact isL_lt _
        · exact isL_lt _
    · exact ha c (List.mem_of_mem_drop h)
theorem nd_set {α : Type} {x : α} : ∀ {l : List α} {j : Nat}, l.Nodup → x ∉ l → (l.set j x).Nodup
  | [], _, _, _ => by simp
  | y :: r, 0, h, hx => by
    rw [List.set_cons_zero, List.nodup_cons] at *
    exact ⟨fun z => hx (List.mem_cons_of_mem _ z), h.2⟩
  | y :: r, j + 1, h, hx => by
    rw [List.set_cons_succ]
    rw [List.nodup_cons] at *
    refine ⟨fun z => ?_, nd_set h.2 fun z => hx (List.mem_cons_of_mem _ z)⟩
    rcases List.mem_or_eq_of_mem_set z with z | z
    · exact h.1 z
    · exact hx (z ▸ List.mem_cons_self)
noncomputable def terms : List Str := ["as", "with", "part", "field", "none", "done", "write", "back", "join"]
theorem terms_name : ∀ z ∈ terms, nameB z = true := by decide +kernel
theorem flat_strs : ∀ ns : List Str, (ns.map V.str).all flatV = true
  | [] => rfl
  | _ :: r => by simpa [flatV] using flat_strs r
theorem in_strs (z : Str) : ∀ ns : List Str, inV (.str z) (ns.map V.str) = decide (z ∈ ns) := by
  intro ns
  unfold inV
  rw [List.any_map]
  rw [Bool.eq_iff_iff, List.any_eq_true, decide_eq_true_iff]
  constructor
  · rintro ⟨y, hy, e⟩
    have : y = z := by simpa [eqV] using e
    exact this ▸ hy
  · intro h
    exact ⟨z, h, by simp [eqV]⟩
end K3

set_option linter.all false
set_option maxRecDepth 100000
set_option Elab.async false
set_option maxHeartbeats 4000000
namespace K3
open PySem L2
noncomputable abbrev kCells : Key := Sum.inr ("cells" : Str)
noncomputable abbrev kAt : Key := Sum.inr ("at" : Str)
noncomputable abbrev kLeft : Key := Sum.inr ("left" : Str)
noncomputable def penD (c : Addr) (a l : Int) : List (Key × V) := [(kCells, .ref c), (kAt, .int a), (kLeft, .int l)]
theorem k_ca : ¬ (kCells = kAt) := by decide +kernel
theorem k_cl : ¬ (kCells = kLeft) := by decide +kernel
theorem k_al : ¬ (kAt = kLeft) := by decide +kernel
theorem k_la : ¬ (kLeft = kAt) := fun e => k_al e.symm
theorem val_cells (c : Addr) (a l : Int) : valV (penD c a l) kCells = some (.ref c) := by
  unfold penD
  rw [valV_pos rfl]
theorem val_at (c : Addr) (a l : Int) : valV (penD c a l) kAt = some (.int a) := by
  unfold penD
  rw [valV_neg k_ca, valV_pos rfl]
theorem val_left (c : Addr) (a l : Int) : valV (penD c a l) kLeft = some (.int l) := by
  unfold penD
  rw [valV_neg k_cl, valV_neg k_al, valV_pos rfl]
theorem put_at (c : Addr) (a l a' : Int) : putK (penD c a l) kAt (.int a') = penD c a' l := by
  unfold putK penD
  rw [if_pos (by rw [List.any_eq_true]; exact ⟨(kAt, .int a), by simp, decide_eq_true rfl⟩)]
  simp only [List.map_cons, List.map_nil, if_neg k_ca, if_neg k_la, if_pos]
theorem put_left (c : Addr) (a l l' : Int) : putK (penD c a l) kLeft (.int l') = penD c a l' := by
  unfold putK penD
  rw [if_pos (by rw [List.any_eq_true]; exact ⟨(kLeft, .int l), by simp, decide_eq_true rfl⟩)]
  simp only [List.map_cons, List.map_nil, if_neg k_cl, if_neg k_al, if_pos]
theorem getL {H : Hp} {p c : Addr} {a l : Int} (h : H p = some (.dK (penD c a l))) : DGet H p (.str "left") (some (.int l)) := by
  have := DGet.k (k := kLeft) h
  rw [val_left] at this
  exact this
theorem getA {H : Hp} {p c : Addr} {a l : Int} (h : H p = some (.dK (penD c a l))) : DGet H p (.str "at") (some (.int a)) := by
  have := DGet.k (k := kAt) h
  rw [val_at] at this
  exact this
theorem getC {H : Hp} {p c : Addr} {a l : Int} (h : H p = some (.dK (penD c a l))) : DGet H p (.str "cells") (some (.ref c)) := by
  have := DGet.k (k := kCells) h
  rw [val_cells] at this
  exact this
theorem putL {H : Hp} {p c : Addr} {a l : Int} (l' : Int) (h : H p = some (.dK (penD c a l))) : DPut H p (.str "left") (.int l') (upd H p (.dK (penD c a l'))) := by
  have := DPut.k (k := kLeft) (v := .int l') h (small1000 (by show 3 ≤ 1000; decide))
  rw [put_left] at this
  exact this
theorem putA {H : Hp} {p c : Addr} {a l : Int} (a' : Int) (h : H p = some (.dK (penD c a l))) : DPut H p (.str "at") (.int a') (upd H p (.dK (penD c a' l))) := by
  have := DPut.k (k := kAt) (v := .int a') h (small1000 (by show 3 ≤ 1000; decide))
  rw [put_at] at this
  exact this
structure PenAt (H : Hp) (p c : Addr) (ns : List Int) (a : Int) : Prop where
  ob : ∃ l, 0 ≤ l ∧ H p = some (.dK (penD c a l))
  ce : H c = some (.lst (ns.map V.int))
  ge : 0 ≤ a
  sm : ns.length ≤ 63
theorem PenAt.same {H H' : Hp} {p c : Addr} {ns : List Int} {a : Int} (x : PenAt H p c ns a) (h : Same H H') : PenAt H' p c ns a := by
  obtain ⟨⟨l, hl, e⟩, ce, ge, sm⟩ := x
  exact ⟨⟨l, hl, h _ _ e⟩, h _ _ ce, ge, sm⟩
theorem PenAt.ne {H : Hp} {p c : Addr} {ns : List Int} {a : Int} (x : PenAt H p c ns a) : c ≠ p := by
  obtain ⟨⟨l, hl, e⟩, ce, _, _⟩ := x
  exact ne_of ce e (by intro z; cases z)
inductive I_spPen (K : PySem.W.Frag) (vs : List V) (H : Hp) (Q : VK) (u3_ : XK) : Prop
  | mk (a : Addr) (ns : List Int) (q0 : vs = [.ref a]) (q1 : SqL K H a (ns.map V.int)) (q2 : ns.length ≤ 63) (q3 : ∀ p c H', PenAt H' p c ns 0 → Same H H' → H p = none → Q (.ref p) H') : I_spPen K vs H Q u3_
noncomputable def spPen (K : PySem.W.Frag) : Sp := fun vs H Q u3_ => I_spPen K vs H Q u3_
inductive I_spTake (vs : List V) (H : Hp) (Q : VK) (u3_ : XK) : Prop
  | mk (p c : Addr) (ns : List Int) (a m : Int) (q0 : vs = [.ref p, .int m]) (q1 : PenAt H p c ns a) (q2 : a ≤ 1000000) (q3 : 0 < m) (q4 : m < 2 ^ 512) (q5 : ∀ r a' H', 0 ≤ r → r < m → a ≤ a' → a' ≤ a + 1 → PenAt H' p c ns a' → KeepBut p H H' → Q (.int r) H') : I_spTake vs H Q u3_
noncomputable def spTake : Sp := fun vs H Q u3_ => I_spTake vs H Q u3_
section
variable {P : Program} {w : World} {K : PySem.W.Frag} {mg : Str → Option Value} {base : Heap}
theorem scPen : FnScope ["_law_script"] ["_law_script"] (defScope sPen) := ⟨rfl, rfl, rfl, by decide +kernel, rfl, by decide +kernel, by decide +kernel⟩
theorem cut63 (ns : List Int) (h : ns.length ≤ 63) : cutV (ns.map V.int) none (some 63) = ns.map V.int := by
  have e : HT.sIx (ns.map V.int).length (ns.map V.int).length (some 63) = (ns.map V.int).length := by
    have := HT.sIx_nat (ns.map V.int).length (ns.map V.int).length 63
    rw [List.length_map] at this ⊢
    refine Eq.trans this ?_
    first | lia | omega
  unfold cutV
  rw [e, HT.sIx_none, List.drop_zero, Nat.sub_zero, List.take_length]
theorem ok_pen {f : Addr} {fd : FuncData} (F : Fun K "_law_pen" "_law_pen" sPen f fd) (hlist : mg "list" = none) : FnOk P w K mg base CX0 1 f fd ["_law_script"] (spPen K) := by
  refine F.ok scPen (fun vs H Q E h => ?_) (fun cdv A outer s H vs Q E hr h => ?_)
  · obtain ⟨a, ns, rfl, _⟩ := h
    rfl
  · obtain ⟨a, ns, rfl, hS, hn, k⟩ := h
    refine ⟨_, pss_one (ps_ret (pe_disp (pps_cons pe_str (pe_callTy call_list_of (by rfl) hlist (by kernel_rfl) (pa_cons (pe_slice sl_list (pv 0) po_none (po_some pe_int)) pa_nil)) (pps_cons pe_str pe_int (pps_cons pe_str pe_int pps_nil))) rfl rfl (by simp) (by decide))), ?_⟩
    intro p hp
    refine ⟨_, rfl, _, rfl, _, _, rfl, (Same.new hp).seq hS, fun q hq => ?_⟩
    rw [cut63 ns hn]
    refine ⟨q, _, rfl, .inl (SqL.of upd_same), fun c hc => ?_⟩
    have nqp : q ≠ p := (ne_of_none upd_same hq).symm
    have ncp : c ≠ p := (ne_of_none (show upd (upd H p (HO.dK [])) q (.lst (ns.map V.int)) p = some (HO.dK []) by rw [upd_ne nqp.symm, upd_same]) hc).symm
    refine ⟨by rw [upd_ne ncp.symm, upd_ne nqp.symm, upd_same], [(kCells, .ref c), (kAt, .int 0), (kLeft, .int 0)], rfl, by show 3 ≤ 15; decide, ?_⟩
    have em : mergeK [] [(kCells, V.ref c), (kAt, .int 0), (kLeft, .int 0)] = penD c 0 0 := by
      have e1 : putK ([] : List (Key × V)) kCells (.ref c) = [(kCells, .ref c)] := by rw [putK_new _ valV_nil]; rfl
      have e2 : putK [(kCells, V.ref c)] kAt (.int 0) = [(kCells, .ref c), (kAt, .int 0)] := by rw [putK_new _ (by rw [valV_neg k_ca, valV_nil])]; rfl
      have e3 : putK [(kCells, V.ref c), (kAt, .int 0)] kLeft (.int 0) = [(kCells, .ref c), (kAt, .int 0), (kLeft, .int 0)] := by rw [putK_new _ (by rw [valV_neg k_cl, valV_neg k_al, valV_nil])]; rfl
      show putK (putK (putK [] kCells (.ref c)) kAt (.int 0)) kLeft (.int 0) = _
      rw [e1, e2, e3]
      rfl
    rw [em]
    refine k p c _ ⟨⟨0, Int.le_refl _, upd_same⟩, by rw [upd_ne ncp, upd_same], Int.le_refl _, hn⟩ (fun b o e => ?_) hp
    have nbp : b ≠ p := ne_of_none e hp
    have nbq : b ≠ q := ne_of_none (show upd H p (HO.dK []) b = some o by rw [upd_ne nbp]; exact e) hq
    have nbc : b ≠ c := ne_of_none (show upd (upd H p (HO.dK [])) q (.lst (ns.map V.int)) b = some o by rw [upd_ne nbq, upd_ne nbp]; exact e) hc
    rw [upd_ne nbp, upd_ne nbc, upd_ne nbq, upd_ne nbp]
    exact e

theorem scTake : FnScope ["_law_pen_here", "_law_many", "_law_found", "_law_at", "_law_cells", "_law_cell", "_law_one", "_law_two"] ["_law_pen_here", "_law_many"] (defScope sTake) := ⟨rfl, rfl, rfl, by decide +kernel, rfl, by decide +kernel, by decide +kernel⟩
theorem sq_le {c a b : Int} (hc : 0 ≤ c) (h : 0 ≤ a) (h2 : a ≤ b) : 0 ≤ c * a * a ∧ c * a * a ≤ c * b * b := by
  have h1 : 0 ≤ c * a := Int.mul_nonneg hc h
  have h3 : c * a ≤ c * b := Int.mul_le_mul_of_nonneg_left h2 hc
  exact ⟨Int.mul_nonneg h1 h, Int.mul_le_mul h3 h2 h (Int.mul_nonneg hc (Int.le_trans h h2))⟩
theorem bnd2 (x : Int) {a : Int} (h : 0 ≤ a) (h2 : a ≤ 1000000) : Int.natAbs (x % (2147483629 : Int) + (1213 : Int) * a * a + (3 : Int)) < 2 ^ 64 := by
  obtain ⟨b1, b2⟩ := sq_le (c := (1213 : Int)) (a := a) (b := 1000000) (by decide) h h2
  have e1 := Int.emod_nonneg x (show (2147483629 : Int) ≠ 0 by decide)
  have e2 := Int.emod_lt_of_pos x (show 0 < (2147483629 : Int) by decide)
  first | lia | omega
theorem bnd3 {x : Int} : -(2 ^ 64) < x % (2147483543 : Int) ∧ x % (2147483543 : Int) < 2 ^ 64 := by
  have e1 := Int.emod_nonneg x (show (2147483543 : Int) ≠ 0 by decide)
  have e2 := Int.emod_lt_of_pos x (show 0 < (2147483543 : Int) by decide)
  first | lia | omega
theorem ok_take {f : Addr} {fd : FuncData} (F : Fun K "_law_take" "_law_take" sTake f fd) (hlen : mg "len" = none) (habs : mg "abs" = none) : FnOk P w K mg base CX0 1 f fd ["_law_pen_here", "_law_many"] spTake := by
  refine F.ok scTake (fun vs H Q E h => ?_) (fun cdv A outer s H vs Q E hr h => ?_)
  · obtain ⟨p, c, ns, a, m, rfl, _⟩ := h
    rfl
  · obtain ⟨p, c, ns, a, m, rfl, hp, ha, hm, hm2, k⟩ := h
    have hu := hu_of hr
    have hu' : (A.deeper (PyProof.Rows.envOfC "_law_take" (defScope sTake) s.heap.objs.size f cdv)).units < cLine := by first | lia | omega
    refine ⟨_, pss_cons (ps_if (pt_cmpR op_gt (pe_dget hu (pv 0) pe_str (fun _ _ => rfl)) pe_int (nomark _))
        (pss_cons (ps_set (i := 2) scTake.nd rfl (Or.inl rfl) (pe_op op_mod (pe_dget hu (pv 0) pe_str (fun _ _ => rfl)) (pv 1)))
        (pss_cons (ps_dput hu (pv 0) pe_str (pe_op op_fdivL (pe_dget hu (pv 0) pe_str (fun _ _ => rfl)) (pv 1)) rfl)
        (pss_one (ps_ret (pv 2))))) pss_nil)
      (pss_cons (ps_set (i := 3) scTake.nd rfl (Or.inl rfl) (pe_dget hu (pv 0) pe_str (fun _ _ => rfl)))
      (pss_cons (ps_dput hu (pv 0) pe_str (pe_op op_add (pv 3) pe_int) rfl)
      (pss_cons (ps_set (i := 4) scTake.nd rfl (Or.inl rfl) (pe_dget hu (pv 0) pe_str (fun _ _ => rfl)))
      (pss_cons (ps_set (i := 5) scTake.nd rfl (Or.inl rfl) (pe_op op_add (pe_op op_add (pe_op op_mul (pe_op op_mul pe_int (pv 3)) (pv 3)) (pe_op op_mul pe_int (pv 3))) pe_int))
      (pss_cons (ps_mid <| ps_if (pt_cmpR (op_neL hu') (pv 4) (pe_lst pa_nil) (nomark _))
        (pss_one (ps_set (i := 5) scTake.nd rfl (Or.inl rfl) (pe_ix ix_list (pv 4) (pe_op op_mod (pv 3) (pe_callB call_len_seq (by rfl) hlen PySem.boot_len (pa_cons (pv 4) pa_nil))) (fun _ _ => rfl)))) pss_nil)
      (pss_cons (ps_mid <| ps_if (pw_and (pt_cmpR op_lt (pv 3) (pe_callB call_len_seq (by rfl) hlen PySem.boot_len (pa_cons (pv 4) pa_nil)) (nomark _))
          (pw_and1 (pt_cmpR op_ge (pe_callB call_abs (by rfl) habs (by kernel_rfl) (pa_cons (pv 5) pa_nil)) (pe_op op_pow pe_int pe_int) (nomark _)))).pt
        (pss_cons (ps_dput hu (pv 0) pe_str (pe_op op_fdivL (pe_callB call_abs (by rfl) habs (by kernel_rfl) (pa_cons (pv 5) pa_nil)) (pv 1)) rfl)
        (pss_one (ps_ret (pe_op op_mod (pe_callB call_abs (by rfl) habs (by kernel_rfl) (pa_cons (pv 5) pa_nil)) (pv 1))))) pss_nil)
      (pss_cons (ps_set (i := 6) scTake.nd rfl (Or.inl rfl) (pe_op op_mod (pe_op op_pow (pe_op op_add (pe_op op_add (pe_op op_mod (pv 5) pe_int) (pe_op op_mul pe_int (pv 3))) pe_int) pe_int) pe_int))
      (pss_cons (ps_set (i := 7) scTake.nd rfl (Or.inl rfl) (pe_op op_mod (pe_op op_pow (pe_op op_add (pe_op op_add (pv 6) (pe_op op_mul (pe_op op_mul pe_int (pv 3)) (pv 3))) pe_int) pe_int) pe_int))
      (pss_one (ps_ret (pe_op op_mod (pe_op op_fdivL (pe_op op_mod (pe_op op_mul (pv 7) (pe_op op_add (pe_op op_mod (pv 6) pe_int) pe_int)) pe_int) pe_int) (pv 1)))))))))))), ?_⟩
    obtain ⟨⟨l, hl0, hob⟩, hce, hge, hsm⟩ := id hp
    have ncp := hp.ne
    refine ⟨_, rfl, p, _, rfl, getL hob, _, _, rfl, rfl, _, rfl, ?_⟩
    refine ite2 (fun h0 => ?_) (fun h0 => ?_)
    · refine ⟨_, rfl, p, _, rfl, getL hob, _, rfl, _, _, rfl, rfl, hm, ?_⟩
      refine ⟨_, rfl, p, _, rfl, getL hob, _, rfl, _, _, rfl, rfl, CDivL.of hm hm2, _, rfl, p, _, rfl, putL _ hob, ?_⟩
      refine ⟨_, rfl, ?_⟩
      exact k (l % m) a _ (Int.emod_nonneg _ (by first | lia | omega)) (Int.emod_lt_of_pos _ hm) (Int.le_refl _) (by first | lia | omega) ⟨⟨l / m, Int.ediv_nonneg hl0 (by first | lia | omega), upd_same⟩, by rw [upd_ne ncp]; exact hce, hge, hsm⟩ (KeepBut.refl p H).upd
    · refine ⟨_, rfl, p, _, rfl, getA hob, ?_⟩
      refine ⟨_, rfl, _, _, rfl, rfl, _, rfl, p, _, rfl, putA _ hob, ?_⟩
      refine ⟨_, rfl, p, _, rfl, getC upd_same, ?_⟩
      refine ⟨_, rfl, _, _, rfl, rfl, .inl (by decide), _, rfl, _, _, rfl, rfl, .inr (by first | lia | omega), _, rfl, _, _, rfl, rfl, .inl (by decide), _, _, rfl, rfl, _, _, rfl, rfl, ?_⟩
      have keep1 : KeepBut p H (upd H p (.dK (penD c (a + 1) l))) := (KeepBut.refl p H).upd
      have hc1 : (upd H p (.dK (penD c (a + 1) l))) c = some (.lst (ns.map V.int)) := by rw [upd_ne ncp]; exact hce
      refine ⟨fun σ' H' => ∃ cv : Int, σ' = [some (.ref p), some (.int m), none, some (.int a), some (.ref c), some (.int cv), none, none] ∧ KeepBut p H H' ∧ H' p = some (.dK (penD c (a + 1) l)) ∧ H' c = some (.lst (ns.map V.int)), ?_, ?_⟩
      · refine ⟨_, rfl, Nat.zero_le _, fun q hq => ?_⟩
        have s2 := Same.new (o := .lst []) hq
        refine ⟨c, q, ns.map V.int, [], rfl, rfl, SqL.of (s2 _ _ hc1), SqL.of upd_same, flat_ints ns, rfl, _, rfl, ?_⟩
        refine ite2 (fun hne => ?_) (fun hne => ?_)
        · have hpos : 0 < ns.length := by
            cases ns with
            | nil => exact absurd hne (by simp [eqVs])
            | cons x r => simp
          have hlt : (a % (ns.length : Int)).toNat < ns.length := by
            have h1 := Int.emod_lt_of_pos a (show (0 : Int) < ns.length by first | lia | omega)
            have h2 := Int.emod_nonneg a (show (ns.length : Int) ≠ 0 by first | lia | omega)
            first | lia | omega
          have hat : atI (ns.map V.int) (a % (ns.length : Int)) = some (.int (ns[(a % (ns.length : Int)).toNat])) := by
            have h2 := Int.emod_nonneg a (show (ns.length : Int) ≠ 0 by first | lia | omega)
            have e := atI_nat (xs := ns.map V.int) (j := (a % (ns.length : Int)).toNat) (v := .int (ns[(a % (ns.length : Int)).toNat])) (by rw [List.getElem?_map, List.getElem?_eq_getElem hlt]; rfl)
            rw [Int.toNat_of_nonneg h2] at e
            exact e
          have hat' : atI (ns.map V.int) (a % ((ns.map V.int).length : Int)) = some (.int (ns[(a % (ns.length : Int)).toNat])) := by
            rw [List.length_map]; exact hat
          refine ⟨_, rfl, _, rfl, _, rfl, c, _, rfl, .inl (SqL.of (s2 _ _ hc1)), _, _, rfl, rfl, (by rw [List.length_map]; first | lia | omega), c, _, _, _, rfl, rfl, SqL.of (s2 _ _ hc1), hat', ?_⟩
          exact ⟨_, rfl, keep1.same s2, s2 _ _ upd_same, s2 _ _ hc1⟩
        · exact ⟨_, rfl, keep1.same s2, s2 _ _ upd_same, s2 _ _ hc1⟩
      · rintro σ' H' ⟨cv, rfl, kp, hpp, hcc⟩
        refine ⟨fun σ' H' => ∃ cv : Int, σ' = [some (.ref p), some (.int m), none, some (.int a), some (.ref c), some (.int cv), none, none] ∧ KeepBut p H H' ∧ H' p = some (.dK (penD c (a + 1) l)) ∧ H' c = some (.lst (ns.map V.int)), ?_, ?_⟩
        · refine ⟨_, rfl, _, rfl, c, _, rfl, .inl (SqL.of hcc), _, _, rfl, rfl, _, rfl, ?_⟩
          refine ite2 (fun h1 => ?_) (fun h1 => ?_)
          · refine ⟨_, rfl, _, rfl, _, _, rfl, rfl, ⟨by decide, by decide, by decide⟩, _, _, rfl, rfl, _, rfl, ?_⟩
            refine ite2 (fun h2 => ?_) (fun h2 => ?_)
            · refine ⟨_, rfl, _, rfl, _, rfl, _, _, rfl, rfl, CDivL.of hm hm2, _, rfl, p, _, rfl, putL _ hpp, ?_⟩
              refine ⟨_, rfl, _, rfl, _, rfl, _, _, rfl, rfl, hm, ?_⟩
              have habs0 : 0 ≤ (if cv < 0 then -cv else cv) := by split <;> first | lia | omega
              exact k _ (a + 1) _ (Int.emod_nonneg _ (by first | lia | omega)) (Int.emod_lt_of_pos _ hm) (by first | lia | omega) (Int.le_refl _) ⟨⟨_, Int.ediv_nonneg habs0 (by first | lia | omega), upd_same⟩, by rw [upd_ne ncp]; exact hcc, by first | lia | omega, hsm⟩ kp.upd
            · exact ⟨cv, rfl, kp, hpp, hcc⟩
          · exact iteF ⟨cv, rfl, kp, hpp, hcc⟩
        · rintro σ' H' ⟨cv, rfl, kp, hpp, hcc⟩
          refine ⟨_, rfl, _, _, rfl, rfl, (by show (0 : Int) < _; decide), _, rfl, _, _, rfl, rfl, .inl (by decide), _, _, rfl, rfl, _, _, rfl, rfl, _, _, rfl, rfl, ⟨by decide, by decide, ?_⟩, _, _, rfl, rfl, (by show (0 : Int) < _; decide), ?_⟩
          · have e1 := Int.emod_nonneg cv (show (2147483587 : Int) ≠ 0 by decide)
            have e2 := Int.emod_lt_of_pos cv (show 0 < (2147483587 : Int) by decide)
            show Int.natAbs (cv % (2147483587 : Int) + (45007 : Int) * a + (11 : Int)) < 2 ^ 64
            first | lia | omega
          · refine ⟨_, rfl, _, rfl, _, _, rfl, rfl, .inl (by decide), _, rfl, _, _, rfl, rfl, .inr (by first | lia | omega), _, _, rfl, rfl, _, _, rfl, rfl, _, _, rfl, rfl, ⟨by decide, by decide, bnd2 _ hge ha⟩, _, _, rfl, rfl, (by show (0 : Int) < _; decide), ?_⟩
            refine ⟨_, rfl, _, rfl, _, _, rfl, rfl, (by show (0 : Int) < _; decide), _, _, rfl, rfl, _, _, rfl, rfl, .inl bnd3, _, _, rfl, rfl, (by show (0 : Int) < _; decide), _, _, rfl, rfl, CDivL.of (by decide) (by decide +kernel), _, rfl, _, _, rfl, rfl, hm, ?_⟩
            exact k _ (a + 1) _ (Int.emod_nonneg _ (by first | lia | omega)) (Int.emod_lt_of_pos _ hm) (by first | lia | omega) (Int.le_refl _) ⟨⟨l, hl0, hpp⟩, hcc, by first | lia | omega, hsm⟩ kp
end
end K3

set_option linter.all false
set_option maxRecDepth 100000
set_option Elab.async false
set_option maxHeartbeats 8000000
namespace K3
open PySem L2
structure Nms (ws : List Str) : Prop where
  nd : ws.Nodup
  ok : ∀ w ∈ ws, nameB w = true
theorem Nms.take {ws : List Str} (h : Nms ws) (n : Nat) : Nms (ws.take n) := ⟨h.nd.sublist (List.take_sublist n ws), fun w hw => h.ok w (List.mem_of_mem_take hw)⟩
inductive I_spNames (vs : List V) (H : Hp) (Q : VK) (u3_ : XK) : Prop
  | mk (p c : Addr) (ns : List Int) (a : Int) (m : Nat) (q0 : vs = [.ref p, .int m]) (q1 : PenAt H p c ns a) (q2 : a ≤ 900000) (q3 : m ≤ 44) (q4 : ∀ l ws a' H', H l = none → H' l = some (.lst (ws.map V.str)) → ws.length = m → Nms ws → a ≤ a' → a' ≤ a + 30 → PenAt H' p c ns a' → KeepBut p H H' → Q (.ref l) H') : I_spNames vs H Q u3_
noncomputable def spNames : Sp := fun vs H Q u3_ => I_spNames vs H Q u3_
theorem pick_range (l : List Nat) : ∀ (m s : Nat), (List.range' s m).filterMap (fun j => l.toArray[j]?) = (l.drop s).take m
  | 0, s => by simp
  | m + 1, s => by
    rw [List.range'_succ, List.filterMap_cons]
    have ih := pick_range l m (s + 1)
    by_cases h : s < l.length
    · have e : l.toArray[s]? = some l[s] := by simp [h]
      rw [e]
      dsimp only
      rw [ih, List.drop_eq_getElem_cons h, List.take_succ_cons]
    · have e : l.toArray[s]? = none := by simp; first | lia | omega
      rw [e]
      dsimp only
      rw [ih, List.drop_eq_nil_of_le (by first | lia | omega), List.drop_eq_nil_of_le (by first | lia | omega)]
      simp
theorem idx_to' : ∀ n : Nat, n < 7 → ∀ s : Nat, s < 7 → s ≤ n → Builtin.Str.strSliceIndices none (some (s : Int)) 1 n = List.range' 0 s := by decide +kernel
theorem idx_from' : ∀ n : Nat, n < 7 → ∀ s : Nat, s < 7 → s ≤ n → Builtin.Str.strSliceIndices (some (s : Int)) none 1 n = List.range' s (n - s) := by decide +kernel
theorem sl_to {b : List Nat} {s : Nat} (hb : b.length ≤ 6) (hs : s ≤ b.length) : Txt.slice (mk b) none (some (s : Int)) = mk (b.take s) := by
  unfold Txt.slice
  rw [mk_len, idx_to' _ (by first | lia | omega) _ (by first | lia | omega) hs]
  split
  · next h =>
    simp at h
    rw [h, List.take_length]
  · have e := pick_range b s 0
    rw [List.drop_zero] at e
    exact congrArg mk e
theorem sl_from {b : List Nat} {s : Nat} (hb : b.length ≤ 6) (hs : s ≤ b.length) : Txt.slice (mk b) (some (s : Int)) none = mk (b.drop s) := by
  unfold Txt.slice
  rw [mk_len, idx_from' _ (by first | lia | omega) _ (by first | lia | omega) hs]
  split
  · next h =>
    simp at h
    have : s = 0 ∨ b.length = 0 := by first | lia | omega
    rcases this with rfl | h0
    · rfl
    · rw [List.length_eq_zero_iff.mp h0]; simp
  · have e := pick_range b (b.length - s) s
    rw [show (b.drop s).take (b.length - s) = b.drop s from List.take_of_length_le (by rw [List.length_drop]; exact Nat.le_refl _)] at e
    exact congrArg mk e
theorem glue_fold (bs : List Nat) : ∀ acc : Array Nat, (bs.map fun c => mk [c]).foldl (fun (acc : Array Nat) (p : Str) => acc ++ (Str.ofString "").cps ++ p.cps) acc = acc ++ bs.toArray := by
  have e0 : (Str.ofString "").cps = #[] := by decide +kernel
  induction bs with
  | nil => intro acc; simp
  | cons x r ih =>
    intro acc
    rw [List.map_cons, List.foldl_cons, ih, e0]
    simp [mk]
theorem join_mk (bs : List Nat) : Txt.join "" (bs.map fun c => mk [c]) = mk bs := by
  show Builtin.Str.glued _ _ = _
  unfold Builtin.Str.glued
  cases bs with
  | nil => rfl
  | cons x r =>
    have := glue_fold r #[x]
    simp only [List.map_cons, List.headD_cons, List.drop_succ_cons, List.drop_zero]
    show (⟨List.foldl _ _ _⟩ : Str) = _
    rw [show (mk [x]).cps = #[x] from rfl]
    rw [this]
    simp [mk]
theorem abc_atM (x : Nat) {j : Int} (hj : j = (x : Int) % 26) : atI abc.cps.toList j = some (lt26 x) := by
  have h0 : 0 ≤ j := by first | lia | omega
  have h1 : j < 26 := by first | lia | omega
  rw [abc_at h0 h1]
  unfold lt26
  congr 1
  first | lia | omega
theorem bij_step (f n : Nat) (h : n ≠ 0) : bij (f + 1) n = bij f ((n - 1) / 2) ++ [n % 2] := by
  show (if n = 0 then [] else _) = _
  rw [if_neg h]
section
variable {P : Program} {w : World} {K : PySem.W.Frag} {mg : Str → Option Value} {base : Heap}
theorem scNames : FnScope ["_law_pen_here", "_law_many", "_law_letters", "_law_way", "_law_turn", "_law_k", "_law_base", "_law_spot", "_law_found", "_law_word", "_law_rest", "_law_terms"] ["_law_pen_here", "_law_many"] (defScope sNames) := ⟨rfl, rfl, rfl, by decide +kernel, rfl, by decide +kernel, by decide +kernel⟩
theorem sum_len {ws : List Str} (h : ∀ w ∈ ws, w.length = 1) : (ws.map (·.length)).sum = ws.length := by
  induction ws with
  | nil => rfl
  | cons x r ih =>
    rw [List.map_cons, List.sum_cons, ih fun w hw => h w (List.mem_cons_of_mem _ hw), h x List.mem_cons_self, List.length_cons]
    first | lia | omega
theorem ok_names {f fT : Addr} {fd fdT : FuncData} (F : Fun K "_law_names" "_law_names" sNames f fd) (hlen : mg "len" = none) (hrng : mg "range" = none) (hmin : mg "min" = none)
    (GT : FnOk P w K mg base CX0 1 fT fdT ["_law_pen_here", "_law_many"] spTake) (mT : mg "_law_take" = some (.ref fT)) (kT : PySem.W.keepIn K (.ref fT) = true) (bT : Binds K fdT ["_law_pen_here", "_law_many"] []) :
    FnOk P w K mg base CX0 2 f fd ["_law_pen_here", "_law_many"] spNames := by
  refine F.ok scNames (fun vs H Q E h => ?_) (fun cdv A outer s H vs Q E hr h => ?_)
  · obtain ⟨p, c, ns, a, m, rfl, _⟩ := h
    rfl
  · obtain ⟨p, c, ns, a, m, rfl, hp, ha, hm, k⟩ := h
    refine ⟨_, pss_cons (ps_set (i := 2) scNames.nd rfl (Or.inr rfl) pe_str)
      (pss_cons (ps_set (i := 3) scNames.nd rfl (Or.inl rfl) (pe_call GT hr rfl mT kT bT .nil pass0 (pa_c (pv 0) (pa_c pe_int pa_nil))))
      (pss_cons (ps_set (i := 4) scNames.nd rfl (Or.inl rfl) (pe_call GT hr rfl mT kT bT .nil pass0 (pa_c (pv 0) (pa_c pe_int pa_nil))))
      (pss_cons (ps_set (i := 6) scNames.nd rfl (Or.inl rfl) (pe_bm PySem.F.plainAttrs_str PySem.F.slot_str_join PySem.F.type_str_join mt_join pe_str (pa_c (pe_comp (N := ["_law_k", "_law_letters", "_law_pen_here"]) (src := [none, some 2, some 0]) (osc := defScope sNames) (oN := ["_law_pen_here", "_law_many", "_law_letters", "_law_way", "_law_turn", "_law_k", "_law_base", "_law_spot", "_law_found", "_law_word", "_law_rest", "_law_terms"]) ⟨by rfl, by decide +kernel, by decide +kernel, by decide +kernel, rfl, by rfl⟩
            (pi_range1 rfl hrng (pa_c (pe_ix ix_list (pe_lst (pa_c (pe_call GT hr rfl mT kT bT .nil pass0 (pa_c (pv 0) (pa_c pe_int pa_nil))) (pa_c pe_int (pa_c pe_int pa_nil)))) (pv 3) (fun _ _ => rfl)) pa_nil))
            fun cl s H fp pins C => ⟨pg_name (i := 0) (show (["_law_k", "_law_letters", "_law_pen_here"] : List Str).Nodup by decide +kernel) rfl (Or.inl rfl), pts_nil, pe_ix ix_str (pv 1) (pe_call GT hr rfl mT kT bT .nil pass0 (pa_c (pv 2) (pa_c pe_int pa_nil))) (fun _ _ => rfl)⟩) pa_nil)))
      (pss_cons (ps_set (i := 7) scNames.nd rfl (Or.inl rfl) (pe_call GT hr rfl mT kT bT .nil pass0 (pa_c (pv 0) (pa_c (pe_op op_add (pe_callB call_len_str (by rfl) hlen PySem.boot_len (pa_c (pv 6) pa_nil)) pe_int) pa_nil))))
      (pss_cons (ps_set (i := 8) scNames.nd rfl (Or.inl rfl) (pe_lst pa_nil))
      (pss_cons (ps_for PassesOwn.never rfl (pi_range1 rfl hrng (pa_c (pv 1) pa_nil)) (pg_name (i := 5) scNames.nd rfl (Or.inl rfl))
        (pss_cons (ps_set (i := 9) scNames.nd rfl (Or.inl rfl) (pe_op op_add_str (pe_ix ix_str (pv 2) (pe_op op_mod (pe_op op_add (pv 4) (pe_op op_mul pe_int (pv 5))) pe_int) (fun _ _ => rfl)) (pe_ix ix_str (pv 2) (pe_op op_mod (pe_op op_add (pv 4) (pe_op op_fdiv (pv 5) pe_int)) pe_int) (fun _ _ => rfl))))
        (pss_cons (ps_set (i := 9) scNames.nd rfl (Or.inl rfl) (pe_op op_add_str (pe_op op_add_str (pe_slice sl_str (pv 6) po_none (po_some (pv 7))) (pv 9)) (pe_slice sl_str (pv 6) (po_some (pv 7)) po_none)))
        (pss_cons (ps_mid <| ps_if (pt_cmpR op_eq (pv 3) pe_int (nomark _))
          (pss_cons (ps_set (i := 9) scNames.nd rfl (Or.inl rfl) pe_str)
          (pss_cons (ps_set (i := 10) scNames.nd rfl (Or.inl rfl) (pe_op op_add (pv 5) pe_int))
          (pss_one (ps_while PassesOwn.never (pt_cmpR op_gt (pv 10) pe_int (nomark _))
            (pss_cons (ps_set (i := 9) scNames.nd rfl (Or.inl rfl) (pe_op op_add_str (pe_ix ix_str (pv 2) (pe_op op_mod (pe_op op_add (pv 4) (pe_op op_mul pe_int (pe_op op_mod (pv 10) pe_int))) pe_int) (fun _ _ => rfl)) (pv 9)))
            (pss_one (ps_set (i := 10) scNames.nd rfl (Or.inl rfl) (pe_op op_fdiv (pe_op op_sub (pv 10) pe_int) pe_int)))))))) pss_nil)
        (pss_one (ps_expr (pe_bm PySem.F.plainAttrs_list PySem.F.slot_list_append PySem.F.type_list_append mt_append (pv 8) (pa_c (pv 9) pa_nil))))))))
      (pss_cons (ps_set (i := 11) scNames.nd rfl (Or.inl rfl) (pe_lst (pa_c pe_str (pa_c pe_str (pa_c pe_str (pa_c pe_str (pa_c pe_str (pa_c pe_str (pa_c pe_str (pa_c pe_str (pa_c pe_str pa_nil)))))))))))
      (pss_cons (ps_mid <| ps_if (pt_cmpR op_eq (pe_call GT hr rfl mT kT bT .nil pass0 (pa_c (pv 0) (pa_c pe_int pa_nil))) pe_int (nomark _))
        (pss_one (ps_for PassesOwn.never rfl (pi_range1 rfl hrng (pa_c (pe_callB (call_min2 rfl) (by rfl) hmin (by kernel_rfl) (pa_c (pv 1) (pa_c pe_int pa_nil))) pa_nil)) (pg_name (i := 5) scNames.nd rfl (Or.inl rfl))
          (pss_one (ps_if (PW.pt (pw_and (pt_cmpR op_eq (pe_call GT hr rfl mT kT bT .nil pass0 (pa_c (pv 0) (pa_c pe_int pa_nil))) pe_int (nomark _)) (pw_and1 (pt_cmpR op_notIn_seq (pe_ix ix_list (pv 11) (pv 5) (fun _ _ => rfl)) (pv 8) (by with_unfolding_all rfl)))))
            (pss_one (ps_asg (pe_ix ix_list (pv 11) (pv 5) (fun _ _ => rfl)) (pg_sub (pv 8) (pv 5) set_list))) pss_nil)))) pss_nil)
      (pss_one (ps_ret (pv 8))))))))))), ?_⟩
    have e0 : (Str.ofString "").length = 0 := by decide +kernel
    have zA : abc.length ≤ sizeLine := sizeLine_big (by rw [abc_len]; decide)
    refine ⟨_, rfl, p, c, ns, a, _, rfl, hp, by first | lia | omega, by decide, by decide +kernel, fun wy a1 H1 w0 w1 l1 u1 hp1 kp1 => ?_⟩
    refine ⟨_, rfl, p, c, ns, a1, _, rfl, hp1, by first | lia | omega, by decide, by decide +kernel, fun tt a2 H2 t0 t1 l2 u2 hp2 kp2 => ?_⟩
    obtain ⟨t, rfl⟩ : ∃ t : Nat, tt = t := ⟨tt.toNat, by first | lia | omega⟩
    refine ⟨rfl, _, rfl, p, c, ns, a2, _, rfl, hp2, by first | lia | omega, by decide, by decide +kernel, fun r3 a3 H3 r30 r31 l3 u3 hp3 kp3 => ?_⟩
    refine ⟨sizeLine_big (by show 3 ≤ 1000000; decide), fun q hq => ?_⟩
    have sq := Same.new (o := .lst [V.int r3, .int 0, .int 6]) hq
    obtain ⟨v, hv, hat⟩ := atI_in (xs := [V.int r3, .int 0, .int 6]) (i := wy) w0 (by show wy < 3; first | lia | omega)
    obtain ⟨n, rfl, hn0, hn6⟩ : ∃ n : Int, v = .int n ∧ 0 ≤ n ∧ n ≤ 6 := by
      simp only [List.mem_cons, List.not_mem_nil, or_false] at hv
      rcases hv with rfl | rfl | rfl
      · exact ⟨_, rfl, by first | lia | omega, by first | lia | omega⟩
      · exact ⟨_, rfl, by first | lia | omega, by first | lia | omega⟩
      · exact ⟨_, rfl, by first | lia | omega, by first | lia | omega⟩
    refine ⟨_, rfl, q, _, wy, _, rfl, rfl, SqL.of upd_same, hat, ?_⟩
    refine ⟨n, rfl, by first | lia | omega, by first | lia | omega, ?_⟩
    have kq : KeepBut p H (upd H3 q (.lst [V.int r3, .int 0, .int 6])) := ((kp1.trans kp2).trans kp3).same sq
    have hpq := hp3.same sq
    generalize upd H3 q (.lst [V.int r3, .int 0, .int 6]) = H4 at kq hpq ⊢
    refine comp_range (fun i ys σ' H' => Ex3 fun (a' : Int) (bs : List Nat) (o : Option V) => All8 (σ' = [o, some (.str abc), some (.ref p)]) (PenAt H' p c ns a') (KeepBut p H H') (a3 ≤ a') (a' ≤ a3 + i) (ys = (bs.map fun c => mk [c]).map V.str) (bs.length = i) ((∀ c ∈ bs, isL c = true)))
      ⟨a3, [], none, rfl, hpq, kq, by first | lia | omega, by first | lia | omega, rfl, rfl, fun w hw => by simp at hw⟩ (sizeLine_big (by first | lia | omega)) (fun i ys σ H p => by obtain ⟨_, bs, _, _, _, _, _, _, rfl, e, _⟩ := p; rw [List.length_map, List.length_map, e]; exact Nat.le_refl _) ?_ ?_
    · rintro i' ys σ' H5 hi' ⟨a', bs, o, rfl, hp5, kp5, la', ha', rfl, hl, hb⟩
      dsimp only [gName]
      refine iteT ?_
      refine ⟨_, rfl, _, rfl, p, c, ns, a', _, rfl, hp5, by first | lia | omega, by decide, by decide +kernel, fun r6 a6 H6 r60 r61 l6 u6 hp6 kp6 => ?_⟩
      refine ⟨_, r6, lt26 r6.toNat, rfl, rfl, zA, abc_at r60 r61, ?_⟩
      refine ⟨a6, bs ++ [lt26 r6.toNat], _, rfl, hp6, kp5.trans kp6, by first | lia | omega, by first | lia | omega, by rw [List.map_append, List.map_append]; rfl, by rw [List.length_append, hl]; rfl, fun c hc => ?_⟩
      rcases List.mem_append.mp hc with z | z
      · exact hb c z
      · rw [List.mem_singleton.mp z]; exact isL_lt _
    · rintro ys σ' H5 ⟨a4, b, o, rfl, hp5, kp5, l4, u4, rfl, hbl, hb⟩ D hD
      have hb6 : b.length ≤ 6 := by first | lia | omega
      refine ⟨_, D, b.map (fun c => mk [c]), rfl, rfl, SqL.of upd_same, by
        rw [sum_len (fun w hw => by obtain ⟨x, _, rfl⟩ := List.mem_map.mp hw; rfl), List.length_map, e0]; first | lia | omega, ?_⟩
      rw [join_mk]
      have hp6 := hp5.same (Same.new (o := .lst ((b.map fun c => mk [c]).map V.str)) hD)
      have kp6 : KeepBut p H _ := kp5.same (Same.new (o := .lst ((b.map fun c => mk [c]).map V.str)) hD)
      generalize upd H5 D (.lst ((b.map fun c => mk [c]).map V.str)) = H6 at hp6 kp6 ⊢
      refine ⟨_, rfl, _, rfl, mk b, rfl, sizeLine_big (by rw [mk_len]; first | lia | omega), _, _, rfl, rfl, p, c, ns, a4, _, rfl, hp6, by first | lia | omega, by first | lia | omega, by rw [mk_len]; first | lia | omega, fun ss a5 H7 s0 s1 l5 u5 hp7 kp7 => ?_⟩
      rw [mk_len] at s1
      obtain ⟨sp, rfl⟩ : ∃ sp : Nat, ss = sp := ⟨ss.toNat, by first | lia | omega⟩
      refine ⟨Nat.zero_le _, fun L hL => ?_⟩
      have kp8 := kp6.trans kp7
      have nLp : L ≠ p := by
        obtain ⟨l, _, z⟩ := hp7.ob
        exact (ne_of_none z hL).symm
      have nLc : L ≠ c := (ne_of_none hp7.ce hL).symm
      have hHL : H L = none := by
        cases e : H L with
        | none => rfl
        | some x => exact absurd (kp8 L x e nLp) (by rw [hL]; simp)
      refine ⟨_, rfl, m, rfl, by first | lia | omega, by first | lia | omega, for_range (n := (m : Int).toNat) (fun i σ H' => Ex3 fun o5 o9 o10 => All2 (σ = [some (.ref p), some (.int m), some (.str abc), some (.int wy), some (.int t), o5, some (.str (mk b)), some (.int sp), some (.ref L), o9, o10, none]) (H' = upd H7 L (.lst (((List.range i).map fun k => mk (word (decide (wy = 1)) b sp t k)).map V.str)))) ⟨_, _, _, rfl, rfl⟩ ?_ ?_⟩
      · rintro i σ H' hi ⟨o5, o9, o10, rfl, rfl⟩
        dsimp only [gName]
        have hi44 : i < 44 := by first | lia | omega
        refine ⟨_, rfl, _, rfl, _, rfl, _, _, rfl, rfl, .inl ⟨by decide, by decide⟩, _, _, rfl, rfl, _, _, rfl, rfl, (by show (0 : Int) < 26; decide), _, _, lt26 (t + 7 * i), rfl, rfl, zA, abc_atM _ (by first | lia | omega), ?_⟩
        refine ⟨_, rfl, _, rfl, _, rfl, _, _, rfl, rfl, ⟨by decide, by decide⟩, _, _, rfl, rfl, _, _, rfl, rfl, (by show (0 : Int) < 26; decide), _, _, lt26 (t + i / 26), rfl, rfl, zA, abc_atM _ (by first | lia | omega), ?_⟩
        refine ⟨_, _, rfl, rfl, sizeLine_big (by show 1 + 1 ≤ 1000000; decide), ?_⟩
        have zB : (mk b).length ≤ sizeLine := sizeLine_big (by rw [mk_len]; first | lia | omega)
        have hs6 : ∀ {x y}, (Txt.slice (mk b) x y).length ≤ 6 := fun {x y} => Nat.le_trans (Txt.slice_le _ x y) (by rw [mk_len]; first | lia | omega)
        have h2 : ((⟨#[lt26 (t + 7 * i)]⟩ : Str) ++ ⟨#[lt26 (t + i / 26)]⟩).length = 2 := rfl
        refine ⟨_, rfl, _, rfl, _, rfl, mk b, rfl, zB, _, rfl, _, _, rfl, rfl, sizeLine_big (by have := hs6 (x := none) (y := some (sp : Int)); first | lia | omega), _, rfl, _, rfl, _, rfl, mk b, rfl, zB, _, _, rfl, rfl, sizeLine_big (by have := hs6 (x := none) (y := some (sp : Int)); have := hs6 (x := some (sp : Int)) (y := none); rw [Str.length_append]; first | lia | omega), ?_⟩
        have ew : (Txt.slice (mk b) none (some (sp : Int)) ++ ((⟨#[lt26 (t + 7 * i)]⟩ : Str) ++ ⟨#[lt26 (t + i / 26)]⟩)) ++ Txt.slice (mk b) (some (sp : Int)) none = mk (b.take sp ++ pair t i ++ b.drop sp) := by
          rw [sl_to hb6 (by first | lia | omega), sl_from hb6 (by first | lia | omega)]
          rw [show ((⟨#[lt26 (t + 7 * i)]⟩ : Str) ++ ⟨#[lt26 (t + i / 26)]⟩) = mk (pair t i) from rfl, mk_app, mk_app]
        rw [ew]
        refine ⟨fun σ' H' => ∃ o10, σ' = [some (.ref p), some (.int m), some (.str abc), some (.int wy), some (.int t), some (.int (0 + i)), some (.str (mk b)), some (.int sp), some (.ref L), some (.str (mk (word (decide (wy = 1)) b sp t i))), o10, none] ∧ H' = upd H7 L (.lst (((List.range i).map fun k => mk (word (decide (wy = 1)) b sp t k)).map V.str)), ?_, ?_⟩
        · refine ⟨_, rfl, rfl, _, rfl, ?_⟩
          refine ite2 (fun g => ?_) (fun g => ?_)
          · have g' : wy = 1 := V.int.inj (of_decide_eq_true g)
            subst g'
            refine ⟨_, rfl, _, _, rfl, rfl, ?_⟩
            refine ⟨fun mm σ' H' => ∃ (r f : Nat) (suf : List Nat) (rv : Int) (wv : Str), mm = r ∧ rv = (r : Int) ∧ wv = mk (suf.map fun d => lt26 (t + 9 * d)) ∧ σ' = [some (.ref p), some (.int m), some (.str abc), some (.int 1), some (.int t), some (.int (0 + i)), some (.str (mk b)), some (.int sp), some (.ref L), some (.str wv), some (.int rv), none] ∧ H' = upd H7 L (.lst (((List.range i).map fun k => mk (word (decide ((1 : Int) = 1)) b sp t k)).map V.str)) ∧ bij f r ++ suf = bij 6 (i + 1) ∧ r < 2 ^ f ∧ suf.length + f ≤ 6, ⟨i + 1, i + 1, 6, [], _, _, rfl, (by show 0 + (i : Int) + 1 = ((i + 1 : Nat) : Int); first | lia | omega), (by show Str.ofString "" = mk []; decide +kernel), rfl, rfl, by simp, by first | lia | omega, by simp⟩, ?_⟩
            rintro mm σ' H' ⟨r, f, suf, rv, wv, rfl, rfl, rfl, rfl, rfl, hbij, hrf, hsl⟩
            refine ⟨_, rfl, _, _, rfl, rfl, _, rfl, ?_⟩
            refine ite2 (fun g2 => ?_) (fun g2 => ?_)
            · have g2' : (0 : Int) < mm := of_decide_eq_true g2
              refine ⟨_, fun σ'' H'' h => h, ?_⟩
              obtain ⟨f', rfl⟩ : ∃ f', f = f' + 1 := by
                cases f with
                | zero => exact absurd hrf (by first | lia | omega)
                | succ x => exact ⟨x, rfl⟩
              have e2 : mk [lt26 (t + 9 * (mm % 2))] ++ mk (suf.map fun d => lt26 (t + 9 * d)) = mk (((mm % 2) :: suf).map fun d => lt26 (t + 9 * d)) := by rw [mk_app]; rfl
              refine ⟨_, rfl, _, rfl, _, rfl, _, _, rfl, rfl, (by show (0 : Int) < 2; decide), _, _, rfl, rfl, .inl ⟨by decide, by decide⟩, _, _, rfl, rfl, _, _, rfl, rfl, (by show (0 : Int) < 26; decide), _, _, lt26 (t + 9 * (mm % 2)), rfl, rfl, zA, abc_atM _ (by first | lia | omega), ?_⟩
              refine ⟨_, rfl, _, _, rfl, rfl, sizeLine_big (by rw [mk_len, List.length_map]; show 1 + _ ≤ _; first | lia | omega), ?_⟩
              refine ⟨_, rfl, _, _, rfl, rfl, _, _, rfl, rfl, ⟨by decide, by decide⟩, ?_⟩
              refine ⟨(mm - 1) / 2, by first | lia | omega, (mm - 1) / 2, f', (mm % 2) :: suf, _, _, rfl, ?_, e2, rfl, rfl, ?_, ?_, ?_⟩
              · show ((mm : Int) - 1) / 2 = _
                first | lia | omega
              · rw [← hbij, bij_step f' mm (by first | lia | omega)]
                simp
              · rw [Nat.pow_succ] at hrf
                first | lia | omega
              · rw [List.length_cons]; first | lia | omega
            · have g2' : ¬ (0 : Int) < mm := fun z => g2 (decide_eq_true z)
              have hz : mm = 0 := by first | lia | omega
              subst hz
              have e3 : bij f 0 = [] := by cases f <;> rfl
              rw [e3, List.nil_append] at hbij
              have e4 : word (decide ((1 : Int) = 1)) b sp t i = suf.map fun d => lt26 (t + 9 * d) := by
                rw [hbij]; rfl
              exact ⟨some (V.int ((0 : Nat) : Int)), by rw [e4], rfl⟩
          · have g' : ¬ wy = 1 := fun z => g (decide_eq_true (by rw [z]))
            rw [decide_eq_false g']
            exact ⟨_, rfl, rfl⟩
        · rintro σ' H' ⟨o10, rfl, rfl⟩
          refine ⟨_, rfl, .inl ⟨rfl, _, SqL.of upd_same⟩, _, rfl, L, _, _, rfl, rfl, upd_same, by rw [List.length_map, List.length_map, List.length_range]; exact small1000 (by first | lia | omega), ?_⟩
          refine ⟨_, _, _, rfl, ?_⟩
          rw [upd_upd, List.range_succ, List.map_append, List.map_append]
          rfl
      · rintro σ H' ⟨o5, o9, o10, rfl, rfl⟩
        have S8 := Same.new (o := .lst (((List.range (m : Int).toNat).map fun k => mk (word (decide (wy = 1)) b sp t k)).map V.str)) hL
        have hp8 := hp7.same S8
        have kp9 := kp8.same S8
        have hL8 : upd H7 L (.lst (((List.range (m : Int).toNat).map fun k => mk (word (decide (wy = 1)) b sp t k)).map V.str)) L = _ := upd_same
        have hN : Nms ((List.range (m : Int).toNat).map fun k => mk (word (decide (wy = 1)) b sp t k)) := by
          refine ⟨word_nd (by first | lia | omega) (by first | lia | omega), fun w hw => ?_⟩
          obtain ⟨k', hk', rfl⟩ := List.mem_map.mp hw
          have := List.mem_range.mp hk'
          exact word_name (by first | lia | omega) hb6 hb
        have hwl : ((List.range (m : Int).toNat).map fun k => mk (word (decide (wy = 1)) b sp t k)).length = m := by rw [List.length_map, List.length_range]; first | lia | omega
        generalize ((List.range (m : Int).toNat).map fun k => mk (word (decide (wy = 1)) b sp t k)) = ws at hp8 kp9 hL8 hN hwl ⊢
        generalize upd H7 L (.lst (ws.map V.str)) = H8 at hp8 kp9 hL8 ⊢
        refine ⟨sizeLine_big (by show 9 ≤ 1000000; decide), fun T hT => ?_⟩
        have S9 := Same.new (o := .lst (terms.map V.str)) hT
        have hT9 : upd H8 T (.lst (terms.map V.str)) T = some (.lst (terms.map V.str)) := upd_same
        have hp9 := hp8.same S9
        have kp10 := kp9.same S9
        have hL9 := S9 _ _ hL8
        have nTL : T ≠ L := (ne_of_none hL8 hT).symm
        have nTp : T ≠ p := by
          obtain ⟨l, _, z⟩ := hp8.ob
          exact (ne_of_none z hT).symm
        have eT : upd H8 T (.lst [V.str "as", .str "with", .str "part", .str "field", .str "none", .str "done", .str "write", .str "back", .str "join"]) = upd H8 T (.lst (terms.map V.str)) := rfl
        rw [eT]
        generalize upd H8 T (.lst (terms.map V.str)) = H9 at hp9 kp10 hL9 hT9 ⊢
        refine ⟨fun σ' H' => ∃ (o5 : Option V) (vs : List Str) (a6 : Int), σ' = [some (.ref p), some (.int m), some (.str abc), some (.int wy), some (.int t), o5, some (.str (mk b)), some (.int sp), some (.ref L), o9, o10, some (.ref T)] ∧ H' L = some (.lst (vs.map V.str)) ∧ vs.length = m ∧ Nms vs ∧ PenAt H' p c ns a6 ∧ a ≤ a6 ∧ a6 ≤ a + 30 ∧ KeepBut p H H', ?_, ?_⟩
        · refine ⟨_, rfl, p, c, ns, a5, _, rfl, hp9, by first | lia | omega, by decide, by decide +kernel, fun r6 a6 H10 r60 r61 l6 u6 hp10 kp11 => ?_⟩
          have hL10 := kp11 _ _ hL9 nLp
          have hT10 := kp11 _ _ hT9 nTp
          have kp12 := kp10.trans kp11
          refine ⟨rfl, _, rfl, ?_⟩
          refine ite2 (fun g => ?_) (fun g => ?_)
          · refine ⟨_, rfl, _, _, rfl, ?_⟩
            obtain ⟨n9, hn9, n90, n91, n92⟩ : ∃ n9 : Int, (if (9 : Int) < m then (9 : Int) else m) = n9 ∧ 0 ≤ n9 ∧ n9 ≤ 9 ∧ n9 ≤ m := by
              refine ⟨_, rfl, ?_⟩
              split <;> first | lia | omega
            rw [hn9]
            refine ⟨n9, rfl, by first | lia | omega, by first | lia | omega, for_range (n := n9.toNat) (fun i σ H' => Ex3 fun (o5 : Option V) (vs : List Str) (a7 : Int) => All9 (σ = [some (.ref p), some (.int m), some (.str abc), some (.int wy), some (.int t), o5, some (.str (mk b)), some (.int sp), some (.ref L), o9, o10, some (.ref T)]) (H' L = some (.lst (vs.map V.str))) (H' T = some (.lst (terms.map V.str))) (vs.length = m) (Nms vs) (PenAt H' p c ns a7) (a6 ≤ a7) (a7 ≤ a6 + i) (KeepBut p H H')) ⟨_, ws, a6, rfl, hL10, hT10, hwl, hN, hp10, by first | lia | omega, by simp, kp12⟩ ?_ ?_⟩
            · rintro i σ H' hi ⟨o5', vs, a7, rfl, hLv, hTv, hvl, hvN, hpv, la7, ua7, kv⟩
              dsimp only [gName]
              refine ⟨_, rfl, p, c, ns, a7, _, rfl, hpv, by first | lia | omega, by decide, by decide +kernel, fun r8 a8 H11 r80 r81 l8 u8 hp11 kp13 => ?_⟩
              have hL11 := kp13 _ _ hLv nLp
              have hT11 := kp13 _ _ hTv nTp
              have k11 := kv.trans kp13
              refine ⟨rfl, _, rfl, ?_⟩
              refine ite2 (fun g2 => ?_) (fun g2 => ?_)
              · obtain ⟨term, hterm⟩ : ∃ x, terms[i]? = some x := ⟨_, List.getElem?_eq_getElem (show i < 9 by first | lia | omega)⟩
                have hix : ixN (terms.map V.str).length (0 + (i : Int)) = some i := by
                  unfold ixN
                  rw [List.length_map, if_pos (by first | lia | omega), if_pos (by show 0 + (i : Int) < 9; first | lia | omega)]
                  congr 1
                  first | lia | omega
                have hat : atI (terms.map V.str) (0 + (i : Int)) = some (V.str term) := by
                  unfold atI
                  rw [hix]
                  simp [hterm]
                have hix2 : ixN (vs.map V.str).length (0 + (i : Int)) = some i := by
                  unfold ixN
                  rw [List.length_map, if_pos (by first | lia | omega), if_pos (by first | lia | omega)]
                  congr 1
                  first | lia | omega
                refine ⟨_, rfl, _, rfl, T, _, _, _, rfl, rfl, SqL.of hT11, hat, _, rfl, L, _, rfl, .inl (SqL.of hL11), rfl, flat_strs vs, _, rfl, ?_⟩
                rw [if_pos rfl, in_strs]
                refine ite2 (fun g3 => ?_) (fun g3 => ?_)
                · have g3' : term ∉ vs := by simpa using g3
                  refine ⟨_, rfl, _, rfl, T, _, _, _, rfl, rfl, SqL.of hT11, hat, ?_⟩
                  refine ⟨_, rfl, _, rfl, L, _, _, i, rfl, rfl, hL11, hix2, ?_⟩
                  refine ⟨_, vs.set i term, a8, rfl, by rw [upd_same, ← List.map_set], by rw [upd_ne nTL]; exact hT11, by rw [List.length_set, hvl], ⟨nd_set hvN.nd g3', fun w hw => ?_⟩, ?_, by first | lia | omega, by first | lia | omega, ?_⟩
                  · rcases List.mem_or_eq_of_mem_set hw with z | z
                    · exact hvN.ok w z
                    · rw [z]; exact terms_name term (List.mem_of_getElem? hterm)
                  · obtain ⟨⟨l, hl, e⟩, ce, ge, sm⟩ := hp11
                    exact ⟨⟨l, hl, by rw [upd_ne nLp.symm]; exact e⟩, by rw [upd_ne nLc.symm]; exact ce, ge, sm⟩
                  · intro x o e ne
                    have nx : x ≠ L := ne_of_none e hHL
                    rw [upd_ne nx]
                    exact k11 x o e ne
                · exact ⟨_, vs, a8, rfl, hL11, hT11, hvl, hvN, hp11, by first | lia | omega, by first | lia | omega, k11⟩
              · exact ⟨_, vs, a8, rfl, hL11, hT11, hvl, hvN, hp11, by first | lia | omega, by first | lia | omega, k11⟩
            · rintro σ H' ⟨o5', vs, a7, rfl, hLv, hTv, hvl, hvN, hpv, la7, ua7, kv⟩
              exact ⟨_, vs, a7, rfl, hLv, hvl, hvN, hpv, by first | lia | omega, by first | lia | omega, kv⟩
          · exact ⟨_, ws, a6, rfl, hL10, hwl, hN, hp10, by first | lia | omega, by first | lia | omega, kp12⟩
        · rintro σ' H' ⟨o5', vs, a6, rfl, hLv, hvl, hvN, hpv, la6, ua6, kv⟩
          exact ⟨_, rfl, k L vs a6 H' hHL hLv hvl hvN la6 ua6 hpv kv⟩
end
end K3

set_option linter.all false
set_option maxRecDepth 100000
set_option Elab.async false
set_option maxHeartbeats 4000000
namespace K3
open PySem L2
structure OkD (b k : Nat) (d : PyData) : Prop where
  sh : d.showable = true
  dp : d.depth ≤ k
  len : d.shown.length ≤ b
theorem OkD.mono {b b' k k' : Nat} {d : PyData} (h : OkD b k d) (hb : b ≤ b') (hk : k ≤ k') : OkD b' k' d := ⟨h.sh, Nat.le_trans h.dp hk, Nat.le_trans h.len hb⟩
theorem okAll {b k : Nat} : ∀ {ds : List PyData}, (∀ d ∈ ds, OkD b k d) → PyData.showableAll ds = true ∧ PyData.depthAll ds ≤ k ∧ ((ds.map PyData.shown).map (·.length)).sum ≤ ds.length * b
  | [], _ => ⟨rfl, Nat.zero_le _, by simp⟩
  | d :: r, h => by
    obtain ⟨h1, h2, h3⟩ := okAll (ds := r) fun x hx => h x (List.mem_cons_of_mem _ hx)
    obtain ⟨g1, g2, g3⟩ := h d List.mem_cons_self
    refine ⟨?_, ?_, ?_⟩
    · unfold PyData.showableAll
      rw [g1, h1]
      rfl
    · unfold PyData.depthAll
      exact Nat.max_le.mpr ⟨g2, h2⟩
    · rw [List.map_cons, List.map_cons, List.sum_cons, List.length_cons, Nat.succ_mul]
      first | lia | omega
theorem OkD.tuple {b k n : Nat} {ds : List PyData} (h : ∀ d ∈ ds, OkD b k d) (hn : ds.length ≤ n) : OkD (n * (b + 2) + 3) (k + 1) (.tuple ds) := by
  obtain ⟨h1, h2, h3⟩ := okAll h
  refine ⟨?_, ?_, ?_⟩
  · unfold PyData.showable; exact h1
  · unfold PyData.depth; first | lia | omega
  · unfold PyData.shown
    rw [PyProof.Rows.shownAll_eq_map]
    unfold tupleText
    have hj := StrLaws.join_length_le (Str.ofString ", ") (ds.map PyData.shown)
    have e1 : (Str.ofString ", ").length = 2 := by decide +kernel
    have e2 : (Str.ofString "(").length = 1 := by decide +kernel
    have e3 : ∀ c : Bool, (Str.ofString (if c = true then ",)" else ")")).length ≤ 2 := by decide +kernel
    have e4 := e3 ((ds.map PyData.shown).length == 1)
    rw [e1, List.length_map] at hj
    rw [Str.length_append, Str.length_append, e2]
    have : ds.length * b + ds.length * 2 ≤ n * (b + 2) := by
      rw [← Nat.mul_add]
      exact Nat.mul_le_mul_right _ hn
    first | lia | omega
theorem OkD.list {b k n : Nat} {ds : List PyData} (h : ∀ d ∈ ds, OkD b k d) (hn : ds.length ≤ n) : OkD (n * (b + 2) + 3) (k + 1) (.list ds) := by
  obtain ⟨h1, h2, h3⟩ := okAll h
  refine ⟨?_, ?_, ?_⟩
  · unfold PyData.showable; exact h1
  · unfold PyData.depth; first | lia | omega
  · unfold PyData.shown
    rw [PyProof.Rows.shownAll_eq_map, listText_eq_join]
    have hj := StrLaws.join_length_le (Str.ofString ", ") (ds.map PyData.shown)
    have e1 : (Str.ofString ", ").length = 2 := by decide +kernel
    have e2 : (Str.ofString "[").length = 1 := by decide +kernel
    have e3 : (Str.ofString "]").length = 1 := by decide +kernel
    rw [e1, List.length_map] at hj
    rw [Str.length_append, Str.length_append, e2, e3]
    have : ds.length * b + ds.length * 2 ≤ n * (b + 2) := by
      rw [← Nat.mul_add]
      exact Nat.mul_le_mul_right _ hn
    first | lia | omega
theorem OkD.str {z : Str} (h : PyData.strOk z = true) (hl : z.length ≤ 100) : OkD 1002 0 (.str z) := by
  refine ⟨by unfold PyData.showable; rfl, by unfold PyData.depth; exact Nat.le_refl _, ?_⟩
  have hz : z.cps.size ≤ 100 := hl
  have hlay : (PyData.str z).layable0 = true := by
    unfold PyData.layable0 PyData.canLay0 PyData.depth PyData.weight
    rw [h, decide_eq_true (show (0 : Nat) ≤ 64 by decide), decide_eq_true (show z.cps.size ≤ 2 ^ 20 by first | lia | omega)]
    rfl
  have := PyProof.Rows.len_repr_of_layable hlay
  unfold PyData.shown
  first | lia | omega
theorem int_len {i : Int} (h0 : 0 ≤ i) (h1 : i < 10 ^ 60) : (Str.ofString (toString i)).length ≤ 60 := by
  obtain ⟨n, rfl⟩ : ∃ n : Nat, i = n := ⟨i.toNat, by first | lia | omega⟩
  rw [PySem.ofString_length]
  show (Int.repr (n : Int)).length ≤ 60
  have e : Int.repr (n : Int) = Nat.repr n := rfl
  rw [e]
  exact (Nat.length_repr_le_iff (by decide)).mpr (by first | lia | omega)
theorem OkD.int {i : Int} (h0 : 0 ≤ i) (h1 : i < 10 ^ 60) : OkD 1002 0 (.int i) := by
  refine ⟨?_, by unfold PyData.depth; exact Nat.le_refl _, ?_⟩
  · unfold PyData.showable
    refine decide_eq_true ?_
    have h2 : i.natAbs < 2 ^ 200 := by
      have : (10 : Int) ^ 60 < ((2 ^ 200 : Nat) : Int) := by decide +kernel
      first | lia | omega
    by_cases hz : i.natAbs = 0
    · rw [hz]; decide
    · have := (Nat.log2_lt hz).mpr h2
      first | lia | omega
  · unfold PyData.shown
    have := int_len h0 h1
    first | lia | omega
theorem strOk_mk {z : Str} (h : nameB z = true) : PyData.strOk z = true := by
  unfold nameB at h
  rw [Bool.and_eq_true, List.all_eq_true] at h
  unfold PyData.strOk
  rw [Array.all_eq_true_iff_forall_mem]
  intro c hc
  have := of_decide_eq_true (h.2 c (by simpa using hc))
  exact decide_eq_true (by first | lia | omega)
theorem OkD.name {z : Str} (h : nameB z = true) : OkD 1002 0 (.str z) := OkD.str (strOk_mk h) (by have := nameB_len h; first | lia | omega)
end K3

set_option linter.all false
set_option maxRecDepth 100000
set_option Elab.async false
set_option maxHeartbeats 8000000
namespace K3
open PySem L2
noncomputable def tyN : PyData → String
  | .none => "NoneType"
  | .bool _ => "bool"
  | .int _ => "int"
  | .str _ => "str"
  | .list _ => "list"
  | .tuple _ => "tuple"
  | .dict _ => "dict"
noncomputable def isStr : PyData → Bool | .str _ => true | _ => false
noncomputable def isTup : PyData → Bool | .tuple _ => true | _ => false
noncomputable def isInt : PyData → Bool | .int _ => true | .bool _ => true | _ => false
noncomputable def isBl : PyData → Bool | .bool _ => true | _ => false
noncomputable def nameD : PyData → Bool | .str z => nameB z | _ => false
noncomputable def wholeD (lo hi : Int) : PyData → Bool | .int i => decide (lo ≤ i ∧ i ≤ hi) | _ => false
noncomputable def partD : PyData → Bool
  | .tuple [l, h, a] => nameD l && nameD h && wholeD 1 10000000 a
  | _ => false
theorem kit_str {K : PySem.W.Frag} (d : PyData) : PySem.W.kitOne K (.type (tyN d)) (.type "str") = some (isStr d) := by
  cases d <;> dsimp only [tyN, isStr] <;> first | exact kit_same | exact kit_of (by decide) (by decide +kernel) (by decide +kernel)
theorem kit_tup {K : PySem.W.Frag} (d : PyData) : PySem.W.kitOne K (.type (tyN d)) (.type "tuple") = some (isTup d) := by
  cases d <;> dsimp only [tyN, isTup] <;> first | exact kit_same | exact kit_of (by decide) (by decide +kernel) (by decide +kernel)
theorem kit_int {K : PySem.W.Frag} (d : PyData) : PySem.W.kitOne K (.type (tyN d)) (.type "int") = some (isInt d) := by
  cases d <;> dsimp only [tyN, isInt] <;> first | exact kit_same | exact kit_of (by decide) (by decide +kernel) (by decide +kernel)
theorem kit_bl {K : PySem.W.Frag} (d : PyData) : PySem.W.kitOne K (.type (tyN d)) (.type "bool") = some (isBl d) := by
  cases d <;> dsimp only [tyN, isBl] <;> first | exact kit_same | exact kit_of (by decide) (by decide +kernel) (by decide +kernel)
theorem ty_of {K : PySem.W.Frag} {m : Bool} {H : Hp} {x : V} {d : PyData} (h : RdV m H x d) : TyOf K H x (.type (tyN d)) := by
  cases h with
  | non => exact .non
  | bl b => exact .bl b
  | int i => exact .int i
  | str z _ => exact .str z
  | lst _ e _ _ => exact .lst e
  | tup e _ _ => exact .tup e
  | dct _ e => exact .dK e
inductive I_spIsName (K : PySem.W.Frag) (vs : List V) (H : Hp) (Q : VK) (u3_ : XK) : Prop
  | mk (x : _) (q0 : vs = [x]) (q1 : ((∃ z, x = V.str z ∧ z.length ≤ 1000000 ∧ ∀ H', Same H H' → Q (.bl (nameB z)) H') ∨ (∃ t, TyOf K H x t ∧ PySem.W.kitOne K t (.type "str") = some false ∧ Q (.bl false) H))) : I_spIsName K vs H Q u3_
noncomputable def spIsName (K : PySem.W.Frag) : Sp := fun vs H Q u3_ => I_spIsName K vs H Q u3_
inductive I_spName (vs : List V) (H : Hp) (Q : VK) (u3_ : XK) : Prop
  | mk (m : Bool) (x : V) (d : PyData) (q0 : vs = [x]) (q1 : RdV m H x d) (q2 : ∀ H', Same H H' → Q (.bl (nameD d)) H') : I_spName vs H Q u3_
noncomputable def spName : Sp := fun vs H Q u3_ => I_spName vs H Q u3_
inductive I_spNumb (vs : List V) (H : Hp) (Q : VK) (u3_ : XK) : Prop
  | mk (m : Bool) (x : V) (d : PyData) (q0 : vs = [x]) (q1 : RdV m H x d) (q2 : Q (.bl (isInt d && !isBl d)) H) : I_spNumb vs H Q u3_
noncomputable def spNumb : Sp := fun vs H Q u3_ => I_spNumb vs H Q u3_
inductive I_spWhole (vs : List V) (H : Hp) (Q : VK) (u3_ : XK) : Prop
  | mk (m : Bool) (x : V) (d : PyData) (lo hi : Int) (q0 : vs = [x, .int lo, .int hi]) (q1 : RdV m H x d) (q2 : Q (.bl (wholeD lo hi d)) H) : I_spWhole vs H Q u3_
noncomputable def spWhole : Sp := fun vs H Q u3_ => I_spWhole vs H Q u3_
inductive I_spPart (vs : List V) (H : Hp) (Q : VK) (u3_ : XK) : Prop
  | mk (m : Bool) (x : V) (d : PyData) (q0 : vs = [x]) (q1 : RdV m H x d) (q2 : ∀ H', Same H H' → Q (.bl (partD d)) H') : I_spPart vs H Q u3_
noncomputable def spPart : Sp := fun vs H Q u3_ => I_spPart vs H Q u3_
structure Txt (K : PySem.W.Frag) (mg : Str → Option Value) : Prop where
  isi : mg "isinstance" = none
  str : mg "str" = none
  len : mg "len" = none
  al : mg "all" = none
  int : mg "int" = none
  bool : mg "bool" = none
  tuple : mg "tuple" = none
  set : mg "set" = none
  longest : ∃ t, mg "LONGEST" = some (.int 8 t)
  lastDay : ∃ t, mg "LAST_DAY" = some (.int 9999 t)
  fewest : ∃ t, mg "FEWEST_LANDS" = some (.int 2 t)
  most : ∃ t, mg "MOST_LANDS" = some (.int 6 t)
  acres : ∃ t, mg "MOST_PART_ACRES" = some (.int 10000000 t)
  inches : ∃ t, mg "MOST_INCHES" = some (.int 10000000 t)
  pence : ∃ t, mg "MOST_PENCE" = some (.int 1000000000 t)
  spades : ∃ t, mg "MOST_SPADES" = some (.int 1000000 t)
section
variable {P : Program} {w : World} {K : PySem.W.Frag} {mg : Str → Option Value} {base : Heap}
theorem kitStr (K : PySem.W.Frag) : PySem.W.kitOne K (.type "str") (.type "str") = some true := by
  unfold PySem.W.kitOne
  rw [if_pos (by rfl)]
theorem scN : FnScope ["thing"] ["thing"] (defScope sIsName) := ⟨rfl, rfl, rfl, by decide +kernel, rfl, by decide +kernel, by decide +kernel⟩
theorem le_one (a b : Nat) : (!decide (([b] : List Nat) < [a])) = decide (a ≤ b) := by
  have : ([b] : List Nat) < [a] ↔ b < a := by
    constructor
    · intro h
      cases h with
      | rel h => exact h
      | cons h => cases h
    · intro h
      exact List.Lex.rel h
  by_cases h : b < a
  · rw [decide_eq_true (this.mpr h), decide_eq_false (by first | lia | omega)]; rfl
  · rw [decide_eq_false (fun z => h (this.mp z)), decide_eq_true (by first | lia | omega)]; rfl
theorem ok_isName {f : Addr} {fd : FuncData} (F : Fun K "is_name" "is_name" sIsName f fd) (T : Txt K mg) : FnOk P w K mg base CX0 1 f fd ["thing"] (spIsName K) := by
  refine F.ok scN (fun vs H Q E h => ?_) (fun cdv A outer s H vs Q E hr h => ?_)
  · obtain ⟨x, rfl, _⟩ := h
    rfl
  · obtain ⟨x, rfl, hx⟩ := h
    obtain ⟨tl, hlong⟩ := T.longest
    refine ⟨_, pss_cons (ps_if (pw_or (pt_not (pt_val (pe_callB call_isinst (by rfl) T.isi (by kernel_rfl) (pa_cons (pv 0) (pa_cons (pe_bltn (v := .ty "str") (by rfl) T.str (by kernel_rfl) rfl) pa_nil)))))
        (pw_or1 (pt_not (pt_chain op_le op_le pe_int (pe_callB call_len_str (by rfl) T.len PySem.boot_len (pa_cons (pv 0) pa_nil)) (pe_glob (v := .int 8) (by rfl) hlong ⟨_, rfl⟩))))).pt (pss_one (ps_ret pe_bl)) pss_nil)
      (pss_one (ps_ret (pe_callB (call_all rfl) (by rfl) T.al (by kernel_rfl) (pa_cons (pe_comp (N := ["sign"]) (src := [none]) (osc := defScope sIsName) (oN := ["thing"]) ⟨by rfl, by decide +kernel, by decide +kernel, by decide +kernel, rfl, by rfl⟩ (pi_str (pv 0))
        fun cl s H fp pins C => ⟨pg_name (i := 0) (show (["sign"] : List Str).Nodup by decide +kernel) rfl (Or.inl rfl), pts_nil, pe_chain op_le_str op_le_str pe_str (pv 0) pe_str⟩) pa_nil)))), ?_⟩
    rcases hx with ⟨z, rfl, hz, k⟩ | ⟨t, ty, e, k⟩
    · refine ⟨_, rfl, _, "str", _, true, rfl, TyOf.str z, kitStr K, true, rfl, ?_⟩
      refine iteF ?_
      refine ⟨_, rfl, z, rfl, sizeLine_big hz, _, _, rfl, rfl, _, rfl, ?_⟩
      have bad : ¬ (1 ≤ z.length ∧ z.length ≤ 8) → Q (.bl false) H := fun h => by
        have := k H (Same.refl H)
        unfold nameB at this
        rw [decide_eq_false h] at this
        exact this
      refine ite2 (fun h1 => ?_) (fun h1 => ?_)
      · have h1' := of_decide_eq_true h1
        refine ⟨_, _, rfl, rfl, _, rfl, ?_⟩
        by_cases h8 : (z.length : Int) ≤ 8
        · rw [decide_eq_true h8]
          refine iteF ?_
          refine ⟨_, rfl, z, rfl, ?_⟩
          refine comp_str (fun i ys σ H' => H' = H ∧ ys = ((z.cps.toList.take i).map fun c => V.bl (decide (97 ≤ c ∧ c ≤ 122))) ∧ σ.length = 1) ⟨rfl, rfl, rfl⟩ (sizeLine_big hz) (fun i ys σ H' p => by rw [p.2.1, List.length_map, List.length_take]; first | lia | omega) ?_ ?_
          · rintro i c ys σ H' hc ⟨rfl, rfl, hσ⟩
            obtain ⟨o, rfl⟩ : ∃ o, σ = [o] := by
              match σ, hσ with
              | [o], _ => exact ⟨o, rfl⟩
            dsimp only [gName]
            refine iteT ?_
            refine ⟨_, rfl, _, _, rfl, rfl, _, rfl, ?_⟩
            have hend : ∀ b : Bool, b = decide (97 ≤ c ∧ c ≤ 122) → (H' = H' ∧ (List.map (fun c => V.bl (decide (97 ≤ c ∧ c ≤ 122))) (List.take i z.cps.toList)) ++ [V.bl b] = (z.cps.toList.take (i + 1)).map (fun c => V.bl (decide (97 ≤ c ∧ c ≤ 122))) ∧ ([o].set 0 (some (V.str ⟨#[c]⟩))).length = 1) := fun b hb => by
              refine ⟨rfl, ?_, rfl⟩
              rw [List.take_add_one, List.map_append, hb]
              have : z.cps.toList[i]? = some c := by simpa using hc
              rw [this]
              rfl
            have e1 : (!decide ((⟨#[c]⟩ : Str).cps.toList < ("a" : Str).cps.toList)) = decide (97 ≤ c) := le_one 97 c
            have e2 : (!decide (("z" : Str).cps.toList < (⟨#[c]⟩ : Str).cps.toList)) = decide (c ≤ 122) := le_one c 122
            rw [e1]
            refine ite2 (fun g1 => ?_) (fun g1 => ?_)
            · have g1' := of_decide_eq_true g1
              refine ⟨_, _, rfl, rfl, ?_⟩
              rw [e2]
              refine hend _ ?_
              rw [decide_eq_decide]
              first | lia | omega
            · have g1' : ¬ 97 ≤ c := fun z => g1 (decide_eq_true z)
              refine hend false ?_
              rw [decide_eq_false (by first | lia | omega)]
          · rintro ys σ H' ⟨rfl, rfl, hσ⟩ D hD
            have etk : List.take z.cps.size z.cps.toList = z.cps.toList := by rw [← Array.length_toList]; exact List.take_length
            rw [etk]
            refine ⟨D, z.cps.toList.map fun c => decide (97 ≤ c ∧ c ≤ 122), rfl, SqL.of (by rw [upd_same, List.map_map]; rfl), ?_⟩
            have := k _ (Same.new (o := .lst (List.map (fun c => V.bl (decide (97 ≤ c ∧ c ≤ 122))) z.cps.toList)) hD)
            unfold nameB at this
            rw [decide_eq_true (by first | lia | omega), Bool.true_and] at this
            rw [List.all_map]
            exact this
        · rw [decide_eq_false h8]
          exact iteT (bad (by first | lia | omega))
      · have h1' : ¬ (1 : Int) ≤ z.length := fun z => h1 (decide_eq_true z)
        refine ⟨false, rfl, ?_⟩
        exact iteT (bad (by first | lia | omega))
    · refine ⟨_, rfl, _, "str", t, false, rfl, ty, e, false, rfl, ?_⟩
      refine iteT ?_
      refine iteT ?_
      exact k
theorem fn_weak {f : Addr} {fd : FuncData} {k : Nat} {ps : List Str} {sp sp' : Sp} (G : FnOk P w K mg base CX0 k f fd ps sp) (h : ∀ vs H Q E, sp' vs H Q E → sp vs H Q E) : FnOk P w K mg base CX0 k f fd ps sp' :=
  ⟨fun vs H Q E z => G.len vs H Q E (h vs H Q E z), fun A outer s H args us vs Q E hr e0 hb r z => G.run A outer s H args us vs Q E hr e0 hb r (h vs H Q E z)⟩
theorem name_weak (vs : List V) (H : Hp) (Q : VK) (E : XK) (h : spName vs H Q E) : spIsName K vs H Q E := by
  obtain ⟨m, x, d, rfl, hx, k⟩ := h
  refine ⟨x, rfl, ?_⟩
  have ty := ty_of (K := K) hx
  have kt := kit_str (K := K) d
  cases hx with
  | str z hz => exact .inl ⟨z, rfl, by first | lia | omega, k⟩
  | non => exact .inr ⟨_, ty, kt, k H (Same.refl H)⟩
  | bl b => exact .inr ⟨_, ty, kt, k H (Same.refl H)⟩
  | int i => exact .inr ⟨_, ty, kt, k H (Same.refl H)⟩
  | lst _ _ _ _ => exact .inr ⟨_, ty, kt, k H (Same.refl H)⟩
  | tup _ _ _ => exact .inr ⟨_, ty, kt, k H (Same.refl H)⟩
  | dct _ _ => exact .inr ⟨_, ty, kt, k H (Same.refl H)⟩
theorem scNumb : FnScope ["thing"] ["thing"] (defScope sIsNumber) := ⟨rfl, rfl, rfl, by decide +kernel, rfl, by decide +kernel, by decide +kernel⟩
theorem ok_numb {f : Addr} {fd : FuncData} (F : Fun K "is_number" "is_number" sIsNumber f fd) (T : Txt K mg) : FnOk P w K mg base CX0 1 f fd ["thing"] spNumb := by
  refine F.ok scNumb (fun vs H Q E h => ?_) (fun cdv A outer s H vs Q E hr h => ?_)
  · obtain ⟨m, x, d, rfl, _⟩ := h
    rfl
  · obtain ⟨m, x, d, rfl, hx, k⟩ := h
    refine ⟨_, pss_one (ps_ret (pe_and (pe_callB call_isinst (by rfl) T.isi (by kernel_rfl) (pa_c (pv 0) (pa_c (pe_bltn (v := .ty "int") (by rfl) T.int (by kernel_rfl) rfl) pa_nil)))
      (pe_one (pe_not (pe_callB call_isinst (by rfl) T.isi (by kernel_rfl) (pa_c (pv 0) (pa_c (pe_bltn (v := .ty "bool") (by rfl) T.bool (by kernel_rfl) rfl) pa_nil))))))), ?_⟩
    refine ⟨_, rfl, _, "int", _, _, rfl, ty_of hx, kit_int d, _, rfl, ?_⟩
    refine ite2 (fun g => ?_) (fun g => ?_)
    · rw [g, Bool.true_and] at k
      exact ⟨_, rfl, _, "bool", _, _, rfl, ty_of hx, kit_bl d, _, rfl, k⟩
    · have g' : isInt d = false := by simpa using g
      rw [g'] at k
      exact k
theorem scIsWhole : FnScope ["thing", "least", "most"] ["thing", "least", "most"] (defScope sIsWhole) := ⟨rfl, rfl, rfl, by decide +kernel, rfl, by decide +kernel, by decide +kernel⟩
theorem ok_isWhole {f fN : Addr} {fd fdN : FuncData} (F : Fun K "is_whole" "is_whole" sIsWhole f fd) (GN : FnOk P w K mg base CX0 1 fN fdN ["thing"] spNumb) (mN : mg "is_number" = some (.ref fN)) (kN : PySem.W.keepIn K (.ref fN) = true) (bN : Binds K fdN ["thing"] []) : FnOk P w K mg base CX0 2 f fd ["thing", "least", "most"] spWhole := by
  refine F.ok scIsWhole (fun vs H Q E h => ?_) (fun cdv A outer s H vs Q E hr h => ?_)
  · obtain ⟨m, x, d, lo, hi, rfl, _⟩ := h
    rfl
  · obtain ⟨m, x, d, lo, hi, rfl, hx, k⟩ := h
    refine ⟨_, pss_one (ps_ret (pe_and (pe_call GN hr rfl mN kN bN .nil pass0 (pa_c (pv 0) pa_nil)) (pe_one (pe_chain op_le op_le (pv 1) (pv 0) (pv 2))))), ?_⟩
    refine ⟨_, rfl, m, x, d, rfl, hx, _, rfl, ?_⟩
    refine ite2 (fun g => ?_) (fun g => ?_)
    · obtain ⟨i, rfl⟩ : ∃ i, d = .int i := by
        cases d with
        | int i => exact ⟨i, rfl⟩
        | _ => simp [isInt, isBl] at g
      cases hx
      refine ⟨_, rfl, _, rfl, _, _, rfl, rfl, ?_⟩
      have k' : Q (.bl (decide (lo ≤ i ∧ i ≤ hi))) H := k
      refine ⟨_, rfl, ?_⟩
      refine ite2 (fun g1 => ?_) (fun g1 => ?_)
      · have g1' : lo ≤ i := of_decide_eq_true g1
        refine ⟨_, rfl, _, _, rfl, rfl, ?_⟩
        show Q (.bl (decide (i ≤ hi))) H
        rw [decide_eq_decide.mpr (show i ≤ hi ↔ lo ≤ i ∧ i ≤ hi from ⟨fun z => ⟨g1', z⟩, fun z => z.2⟩)]
        exact k'
      · have g1' : ¬ lo ≤ i := fun z => g1 (decide_eq_true z)
        rw [decide_eq_false (fun z => g1' z.1)] at k'
        exact k'
    · have g' : (isInt d && !isBl d) = false := by simpa using g
      have e : wholeD lo hi d = false := by
        cases d with
        | int i => simp [isInt, isBl] at g'
        | _ => rfl
      rw [e] at k
      exact k
end
end K3

set_option linter.all false
set_option maxRecDepth 100000
set_option Elab.async false
set_option maxHeartbeats 8000000
namespace K3
open PySem L2
inductive I_spInch (vs : List V) (H : Hp) (Q : VK) (u3_ : XK) : Prop
  | mk (m : Bool) (x : V) (d : PyData) (q0 : vs = [x]) (q1 : RdV m H x d) (q2 : Q (.bl (wholeD 0 9999999 d)) H) : I_spInch vs H Q u3_
noncomputable def spInch : Sp := fun vs H Q u3_ => I_spInch vs H Q u3_
section
variable {P : Program} {w : World} {K : PySem.W.Frag} {mg : Str → Option Value} {base : Heap}
theorem scPart : FnScope ["thing", "land", "house", "acres"] ["thing"] (defScope sIsPart) := ⟨rfl, rfl, rfl, by decide +kernel, rfl, by decide +kernel, by decide +kernel⟩
theorem rds1 {m : Bool} {H : Hp} {x1 : V} {ds : List PyData} (h : RdVs m H [x1] ds) : ∃ d1, ds = [d1] ∧ RdV m H x1 d1 := by
  cases h with
  | cons r1 h =>
  cases h
  exact ⟨_, rfl, r1⟩
theorem rds2 {m : Bool} {H : Hp} {x1 x2 : V} {ds : List PyData} (h : RdVs m H [x1, x2] ds) : ∃ d1 d2, ds = [d1, d2] ∧ RdV m H x1 d1 ∧ RdV m H x2 d2 := by
  cases h with
  | cons r1 h =>
  cases h with
  | cons r2 h =>
  cases h
  exact ⟨_, _, rfl, r1, r2⟩
theorem rds3 {m : Bool} {H : Hp} {x1 x2 x3 : V} {ds : List PyData} (h : RdVs m H [x1, x2, x3] ds) : ∃ d1 d2 d3, ds = [d1, d2, d3] ∧ RdV m H x1 d1 ∧ RdV m H x2 d2 ∧ RdV m H x3 d3 := by
  cases h with
  | cons r1 h =>
  cases h with
  | cons r2 h =>
  cases h with
  | cons r3 h =>
  cases h
  exact ⟨_, _, _, rfl, r1, r2, r3⟩
theorem rds4 {m : Bool} {H : Hp} {x1 x2 x3 x4 : V} {ds : List PyData} (h : RdVs m H [x1, x2, x3, x4] ds) : ∃ d1 d2 d3 d4, ds = [d1, d2, d3, d4] ∧ RdV m H x1 d1 ∧ RdV m H x2 d2 ∧ RdV m H x3 d3 ∧ RdV m H x4 d4 := by
  cases h with
  | cons r1 h =>
  cases h with
  | cons r2 h =>
  cases h with
  | cons r3 h =>
  cases h with
  | cons r4 h =>
  cases h
  exact ⟨_, _, _, _, rfl, r1, r2, r3, r4⟩
theorem ok_part {f fN fW : Addr} {fd fdN fdW : FuncData} (F : Fun K "is_part" "is_part" sIsPart f fd) (T : Txt K mg)
    (GN : FnOk P w K mg base CX0 1 fN fdN ["thing"] spName) (mN : mg "is_name" = some (.ref fN)) (kN : PySem.W.keepIn K (.ref fN) = true) (bN : Binds K fdN ["thing"] [])
    (GW : FnOk P w K mg base CX0 2 fW fdW ["thing", "least", "most"] spWhole) (mW : mg "is_whole" = some (.ref fW)) (kW : PySem.W.keepIn K (.ref fW) = true) (bW : Binds K fdW ["thing", "least", "most"] []) :
    FnOk P w K mg base CX0 3 f fd ["thing"] spPart := by
  refine F.ok scPart (fun vs H Q E h => ?_) (fun cdv A outer s H vs Q E hr h => ?_)
  · obtain ⟨m, x, d, rfl, _⟩ := h
    rfl
  · obtain ⟨m, x, d, rfl, hx, k⟩ := h
    have hr1 : Room 1 _ := hr.mono (by decide)
    obtain ⟨ta, hacres⟩ := T.acres
    refine ⟨_, pss_cons (ps_if (PW.pt (pw_or (pt_not (pt_val (pe_callB call_isinst (by rfl) T.isi (by kernel_rfl) (pa_c (pv 0) (pa_c (pe_bltn (v := .ty "tuple") (by rfl) T.tuple (by kernel_rfl) rfl) pa_nil)))))
        (pw_or1 (pt_cmpR op_ne (pe_callB call_len_seq (by rfl) T.len PySem.boot_len (pa_c (pv 0) pa_nil)) pe_int (nomark _))))) (pss_one (ps_ret pe_bl)) pss_nil)
      (pss_cons (ps_asg (pv 0) (pg_tup rfl (pgs_cons (pg_name (i := 1) scPart.nd rfl (Or.inl rfl)) (pgs_cons (pg_name (i := 2) scPart.nd rfl (Or.inl rfl)) (pgs_cons (pg_name (i := 3) scPart.nd rfl (Or.inl rfl)) pgs_nil)))))
      (pss_one (ps_ret (pe_and (pe_call GN hr1 rfl mN kN bN .nil pass0 (pa_c (pv 1) pa_nil)) (pe_and (pe_call GN hr1 rfl mN kN bN .nil pass0 (pa_c (pv 2) pa_nil)) (pe_one (pe_call GW hr rfl mW kW bW .nil pass0 (pa_c (pv 3) (pa_c pe_int (pa_c (pe_glob (v := .int 10000000) (by rfl) hacres ⟨_, rfl⟩) pa_nil)))))))))), ?_⟩
    refine ⟨_, rfl, _, "tuple", _, _, rfl, ty_of hx, kit_tup d, _, rfl, ?_⟩
    cases hd : isTup d with
    | false =>
      have e : partD d = false := by
        cases d with
        | tuple ds => simp [isTup] at hd
        | _ => rfl
      rw [e] at k
      exact k H (Same.refl H)
    | true =>
      obtain ⟨ds, rfl⟩ : ∃ ds, d = .tuple ds := by
        cases d with
        | tuple z => exact ⟨z, rfl⟩
        | _ => simp [isTup] at hd
      cases hx with
      | @tup a xs _ e hl r =>
        have hlen := r.len
        refine iteF ?_
        refine ⟨_, rfl, a, xs, rfl, .inr (SqT.of e), rfl, _, rfl, ?_⟩
        by_cases h3 : xs.length = 3
        · rw [decide_eq_true (show V.int (xs.length : Int) = V.int 3 by rw [h3]; rfl)]
          refine iteF ?_
          obtain ⟨x1, x2, x3, rfl⟩ := len3 h3
          obtain ⟨d1, d2, d3, rfl, r1, r2, r3⟩ := rds3 r
          refine ⟨_, rfl, a, _, rfl, SqT.of e, rfl, _, _, rfl, _, _, rfl, _, _, rfl, rfl, ?_⟩
          have k' : ∀ H', Same H H' → Q (.bl (nameD d1 && nameD d2 && wholeD 1 10000000 d3)) H' := k
          refine ⟨_, rfl, m, x1, d1, rfl, r1, fun H1 s1 => ⟨_, rfl, ?_⟩⟩
          have k1 := k' H1 s1
          refine ite2 (fun g => ?_) (fun g => ?_)
          · refine ⟨_, rfl, m, x2, d2, rfl, r2.same s1, fun H2 s2 => ⟨_, rfl, ?_⟩⟩
            have k2 := k' H2 (s1.trans s2)
            rw [g, Bool.true_and] at k2
            refine ite2 (fun g2 => ?_) (fun g2 => ?_)
            · rw [g2, Bool.true_and] at k2
              exact ⟨_, rfl, m, x3, d3, 1, 10000000, rfl, (r3.same s1).same s2, k2⟩
            · rw [(by simpa using g2 : nameD d2 = false)] at k2
              exact k2
          · rw [(by simpa using g : nameD d1 = false)] at k1
            exact k1
        · rw [decide_eq_false (show ¬ V.int (xs.length : Int) = V.int 3 from fun z => h3 (by injection z with z; first | lia | omega))]
          refine iteT ?_
          have e2 : partD (.tuple ds) = false := by
            match ds, (show ds.length ≠ 3 by first | lia | omega) with
            | [], _ => rfl
            | [_], _ => rfl
            | [_, _], _ => rfl
            | [_, _, _], z => exact absurd rfl z
            | _ :: _ :: _ :: _ :: _, _ => rfl
          rw [e2] at k
          exact k H (Same.refl H)
theorem scInch : FnScope ["thing"] ["thing"] (defScope sIsInch) := ⟨rfl, rfl, rfl, by decide +kernel, rfl, by decide +kernel, by decide +kernel⟩
theorem ok_inch {f fW : Addr} {fd fdW : FuncData} (F : Fun K "is_inch" "is_inch" sIsInch f fd) (T : Txt K mg)
    (GW : FnOk P w K mg base CX0 2 fW fdW ["thing", "least", "most"] spWhole) (mW : mg "is_whole" = some (.ref fW)) (kW : PySem.W.keepIn K (.ref fW) = true) (bW : Binds K fdW ["thing", "least", "most"] []) :
    FnOk P w K mg base CX0 3 f fd ["thing"] spInch := by
  refine F.ok scInch (fun vs H Q E h => ?_) (fun cdv A outer s H vs Q E hr h => ?_)
  · obtain ⟨m, x, d, rfl, _⟩ := h
    rfl
  · obtain ⟨m, x, d, rfl, hx, k⟩ := h
    obtain ⟨ti, hin⟩ := T.inches
    refine ⟨_, pss_one (ps_ret (pe_call GW hr rfl mW kW bW .nil pass0 (pa_c (pv 0) (pa_c pe_int (pa_c (pe_op op_sub (pe_glob (v := .int 10000000) (by rfl) hin ⟨_, rfl⟩) pe_int) pa_nil))))), ?_⟩
    exact ⟨_, rfl, _, _, rfl, rfl, m, x, d, 0, 9999999, rfl, hx, k⟩
end
end K3

set_option linter.all false
set_option maxRecDepth 100000
set_option Elab.async false
set_option maxHeartbeats 8000000
namespace K3
open PySem L2
noncomputable def namesD : PyData → Bool
  | .tuple ds => ds.all nameD
  | _ => false
noncomputable def partsD : PyData → Bool
  | .tuple ds => ds.all partD
  | _ => false
inductive I_spAllN (vs : List V) (H : Hp) (Q : VK) (u3_ : XK) : Prop
  | mk (m : Bool) (x : V) (d : PyData) (q0 : vs = [x]) (q1 : RdV m H x d) (q2 : ∀ H', Same H H' → Q (.bl (namesD d)) H') : I_spAllN vs H Q u3_
noncomputable def spAllN : Sp := fun vs H Q u3_ => I_spAllN vs H Q u3_
inductive I_spAllP (vs : List V) (H : Hp) (Q : VK) (u3_ : XK) : Prop
  | mk (m : Bool) (x : V) (d : PyData) (q0 : vs = [x]) (q1 : RdV m H x d) (q2 : ∀ H', Same H H' → Q (.bl (partsD d)) H') : I_spAllP vs H Q u3_
noncomputable def spAllP : Sp := fun vs H Q u3_ => I_spAllP vs H Q u3_
section
variable {P : Program} {w : World} {K : PySem.W.Frag} {mg : Str → Option Value} {base : Heap}
theorem scAllN : FnScope ["thing"] ["thing"] (defScope sAllNames) := ⟨rfl, rfl, rfl, by decide +kernel, rfl, by decide +kernel, by decide +kernel⟩
theorem ok_allN {f fN : Addr} {fd fdN : FuncData} (F : Fun K "all_names" "all_names" sAllNames f fd) (T : Txt K mg)
    (GN : FnOk P w K mg base CX0 1 fN fdN ["thing"] spName) (mN : mg "is_name" = some (.ref fN)) (kN : PySem.W.keepIn K (.ref fN) = true) (bN : Binds K fdN ["thing"] []) :
    FnOk P w K mg base CX0 2 f fd ["thing"] spAllN := by
  refine F.ok scAllN (fun vs H Q E h => ?_) (fun cdv A outer s H vs Q E hr h => ?_)
  · obtain ⟨m, x, d, rfl, _⟩ := h
    rfl
  · obtain ⟨m, x, d, rfl, hx, k⟩ := h
    refine ⟨_, pss_one (ps_ret (pe_and (pe_callB call_isinst (by rfl) T.isi (by kernel_rfl) (pa_c (pv 0) (pa_c (pe_bltn (v := .ty "tuple") (by rfl) T.tuple (by kernel_rfl) rfl) pa_nil)))
      (pe_one (pe_callB (call_all rfl) (by rfl) T.al (by kernel_rfl) (pa_c (pe_comp (N := ["name"]) (src := [none]) (osc := defScope sAllNames) (oN := ["thing"]) ⟨by rfl, by decide +kernel, by decide +kernel, by decide +kernel, rfl, by rfl⟩ (pi_tup (pv 0))
          fun cl s H fp pins C => ⟨pg_name (i := 0) (show (["name"] : List Str).Nodup by decide +kernel) rfl (Or.inl rfl), pts_nil, pe_call GN hr rfl mN kN bN .nil pass0 (pa_c (pv 0) pa_nil)⟩) pa_nil))))), ?_⟩
    refine ⟨_, rfl, _, "tuple", _, _, rfl, ty_of hx, kit_tup d, _, rfl, ?_⟩
    cases hd : isTup d with
    | false =>
      have e : namesD d = false := by
        cases d with
        | tuple ds => simp [isTup] at hd
        | _ => rfl
      rw [e] at k
      exact k H (Same.refl H)
    | true =>
      obtain ⟨ds, rfl⟩ : ∃ ds, d = .tuple ds := by
        cases d with
        | tuple z => exact ⟨z, rfl⟩
        | _ => simp [isTup] at hd
      cases hx with
      | @tup a xs _ e hl r =>
        have hlen := r.len
        have k' : ∀ H', Same H H' → Q (.bl (ds.all nameD)) H' := k
        refine iteT ?_
        refine ⟨_, rfl, a, rfl, ⟨xs, SqT.of e⟩, ?_⟩
        refine comp_tup (xs := xs) (fun i ys σ H' => Same H H' ∧ ys = ((ds.take i).map fun d => V.bl (nameD d)) ∧ ∃ o, σ = [o]) ⟨Same.refl H, rfl, none, rfl⟩ (sizeLine_big (by first | lia | omega)) (fun i ys σ H' p => by rw [p.2.1, List.length_map, List.length_take]; first | lia | omega) (fun i ys σ H' p => SqT.of (p.1 _ _ e)) ?_ ?_
        · rintro i y ys σ H' hy ⟨S, rfl, o, rfl⟩
          dsimp only [gName]
          obtain ⟨d', hd', r'⟩ := r.at hy
          refine iteT ?_
          refine ⟨_, rfl, m, y, d', rfl, r'.same S, fun H2 s2 => ⟨S.trans s2, ?_, _, rfl⟩⟩
          rw [List.take_add_one, hd', List.map_append]
          rfl
        · rintro ys σ H1 ⟨S, rfl, o, rfl⟩ D hD
          have etk : List.take xs.length ds = ds := List.take_of_length_le (by first | lia | omega)
          rw [etk]
          have S1 := S.trans (Same.new (o := .lst (ds.map fun d => V.bl (nameD d))) hD)
          refine ⟨D, ds.map nameD, rfl, SqL.of (by rw [upd_same, List.map_map]; rfl), ?_⟩
          rw [List.all_map]
          exact k' _ S1
theorem scAllP : FnScope ["thing"] ["thing"] (defScope sAllParts) := ⟨rfl, rfl, rfl, by decide +kernel, rfl, by decide +kernel, by decide +kernel⟩
theorem ok_allP {f fN : Addr} {fd fdN : FuncData} (F : Fun K "all_parts" "all_parts" sAllParts f fd) (T : Txt K mg)
    (GN : FnOk P w K mg base CX0 3 fN fdN ["thing"] spPart) (mN : mg "is_part" = some (.ref fN)) (kN : PySem.W.keepIn K (.ref fN) = true) (bN : Binds K fdN ["thing"] []) :
    FnOk P w K mg base CX0 4 f fd ["thing"] spAllP := by
  refine F.ok scAllP (fun vs H Q E h => ?_) (fun cdv A outer s H vs Q E hr h => ?_)
  · obtain ⟨m, x, d, rfl, _⟩ := h
    rfl
  · obtain ⟨m, x, d, rfl, hx, k⟩ := h
    refine ⟨_, pss_one (ps_ret (pe_and (pe_callB call_isinst (by rfl) T.isi (by kernel_rfl) (pa_c (pv 0) (pa_c (pe_bltn (v := .ty "tuple") (by rfl) T.tuple (by kernel_rfl) rfl) pa_nil)))
      (pe_one (pe_callB (call_all rfl) (by rfl) T.al (by kernel_rfl) (pa_c (pe_comp (N := ["part"]) (src := [none]) (osc := defScope sAllParts) (oN := ["thing"]) ⟨by rfl, by decide +kernel, by decide +kernel, by decide +kernel, rfl, by rfl⟩ (pi_tup (pv 0))
          fun cl s H fp pins C => ⟨pg_name (i := 0) (show (["part"] : List Str).Nodup by decide +kernel) rfl (Or.inl rfl), pts_nil, pe_call GN hr rfl mN kN bN .nil pass0 (pa_c (pv 0) pa_nil)⟩) pa_nil))))), ?_⟩
    refine ⟨_, rfl, _, "tuple", _, _, rfl, ty_of hx, kit_tup d, _, rfl, ?_⟩
    cases hd : isTup d with
    | false =>
      have e : partsD d = false := by
        cases d with
        | tuple ds => simp [isTup] at hd
        | _ => rfl
      rw [e] at k
      exact k H (Same.refl H)
    | true =>
      obtain ⟨ds, rfl⟩ : ∃ ds, d = .tuple ds := by
        cases d with
        | tuple z => exact ⟨z, rfl⟩
        | _ => simp [isTup] at hd
      cases hx with
      | @tup a xs _ e hl r =>
        have hlen := r.len
        have k' : ∀ H', Same H H' → Q (.bl (ds.all partD)) H' := k
        refine iteT ?_
        refine ⟨_, rfl, a, rfl, ⟨xs, SqT.of e⟩, ?_⟩
        refine comp_tup (xs := xs) (fun i ys σ H' => Same H H' ∧ ys = ((ds.take i).map fun d => V.bl (partD d)) ∧ ∃ o, σ = [o]) ⟨Same.refl H, rfl, none, rfl⟩ (sizeLine_big (by first | lia | omega)) (fun i ys σ H' p => by rw [p.2.1, List.length_map, List.length_take]; first | lia | omega) (fun i ys σ H' p => SqT.of (p.1 _ _ e)) ?_ ?_
        · rintro i y ys σ H' hy ⟨S, rfl, o, rfl⟩
          dsimp only [gName]
          obtain ⟨d', hd', r'⟩ := r.at hy
          refine iteT ?_
          refine ⟨_, rfl, m, y, d', rfl, r'.same S, fun H2 s2 => ⟨S.trans s2, ?_, _, rfl⟩⟩
          rw [List.take_add_one, hd', List.map_append]
          rfl
        · rintro ys σ H1 ⟨S, rfl, o, rfl⟩ D hD
          have etk : List.take xs.length ds = ds := List.take_of_length_le (by first | lia | omega)
          rw [etk]
          have S1 := S.trans (Same.new (o := .lst (ds.map fun d => V.bl (partD d))) hD)
          refine ⟨D, ds.map partD, rfl, SqL.of (by rw [upd_same, List.map_map]; rfl), ?_⟩
          rw [List.all_map]
          exact k' _ S1
end
end K3

set_option linter.all false
set_option maxRecDepth 100000
set_option Elab.async false
set_option maxHeartbeats 8000000
namespace K3
open PySem L2
inductive I_spFits (D : List PyData → Bool) (vs : List V) (H : Hp) (Q : VK) (u3_ : XK) : Prop
  | mk (m : Bool) (x : V) (ds : List PyData) (q0 : vs = [x]) (q1 : RdV m H x (.tuple ds)) (q2 : ∀ H', Same H H' → Q (.bl (D ds)) H') : I_spFits D vs H Q u3_
noncomputable def spFits (D : List PyData → Bool) : Sp := fun vs H Q u3_ => I_spFits D vs H Q u3_
noncomputable def fMeasure : List PyData → Bool
  | [d1, d2] => nameD d1 && wholeD 0 10000000 d2
  | _ => false
theorem fMeasure_no {ds : List PyData} (h : ds.length ≠ 2) : fMeasure ds = false := by
  match ds, h with
  | [], _ => rfl
  | [_], _ => rfl
  | [_, _], z => exact absurd rfl z
  | _ :: _ :: _ :: _, _ => rfl
noncomputable def fView : List PyData → Bool
  | [d1, d2, d3] => nameD d1 && wholeD 0 9999999 d2 && nameD d3
  | _ => false
theorem fView_no {ds : List PyData} (h : ds.length ≠ 3) : fView ds = false := by
  match ds, h with
  | [], _ => rfl
  | [_], _ => rfl
  | [_, _], _ => rfl
  | [_, _, _], z => exact absurd rfl z
  | _ :: _ :: _ :: _ :: _, _ => rfl
noncomputable def fAlone : List PyData → Bool
  | [d1] => nameD d1
  | _ => false
theorem fAlone_no {ds : List PyData} (h : ds.length ≠ 1) : fAlone ds = false := by
  match ds, h with
  | [], _ => rfl
  | [_], z => exact absurd rfl z
  | _ :: _ :: _, _ => rfl
noncomputable def fBreach : List PyData → Bool
  | [d1, d2, d3, d4] => nameD d1 && wholeD 0 9999999 d2 && wholeD 0 1000000000 d3 && wholeD 0 1000000 d4
  | _ => false
theorem fBreach_no {ds : List PyData} (h : ds.length ≠ 4) : fBreach ds = false := by
  match ds, h with
  | [], _ => rfl
  | [_], _ => rfl
  | [_, _], _ => rfl
  | [_, _, _], _ => rfl
  | [_, _, _, _], z => exact absurd rfl z
  | _ :: _ :: _ :: _ :: _ :: _, _ => rfl
section
variable {P : Program} {w : World} {K : PySem.W.Frag} {mg : Str → Option Value} {base : Heap}
theorem scfMeasure : FnScope ["rest"] ["rest"] (defScope sFMeasure) := ⟨rfl, rfl, rfl, by decide +kernel, rfl, by decide +kernel, by decide +kernel⟩
theorem ok_fMeasure {f fN fW : Addr} {fd fdN fdW : FuncData} (F : Fun K "fits_measure" "fits_measure" sFMeasure f fd) (T : Txt K mg)
    (GN : FnOk P w K mg base CX0 1 fN fdN ["thing"] spName) (mN : mg "is_name" = some (.ref fN)) (kN : PySem.W.keepIn K (.ref fN) = true) (bN : Binds K fdN ["thing"] [])
    (GW : FnOk P w K mg base CX0 2 fW fdW ["thing", "least", "most"] spWhole) (mW : mg "is_whole" = some (.ref fW)) (kW : PySem.W.keepIn K (.ref fW) = true) (bW : Binds K fdW ["thing", "least", "most"] []) :
    FnOk P w K mg base CX0 6 f fd ["rest"] (spFits fMeasure) := by
  refine F.ok scfMeasure (fun vs H Q E h => ?_) (fun cdv A outer s H vs Q E hr h => ?_)
  · obtain ⟨m, x, d, rfl, _⟩ := h
    rfl
  · obtain ⟨m, x, ds, rfl, hx, k⟩ := h
    have hr1 : Room 1 _ := hr.mono (by decide)
    have hr2 : Room 2 _ := hr.mono (by decide)
    have hr3 : Room 3 _ := hr.mono (by decide)
    obtain ⟨tinches, hinches⟩ := T.inches
    refine ⟨_, pss_one (ps_ret (pe_and (pe_cmpR op_eq (pe_callB call_len_seq (by rfl) T.len PySem.boot_len (pa_c (pv 0) pa_nil)) pe_int (nomark _)) (pe_and (pe_call GN hr1 rfl mN kN bN .nil pass0 (pa_c (pe_ix ix_tup (pv 0) pe_int (fun _ _ => rfl)) pa_nil)) (pe_one (pe_call GW hr2 rfl mW kW bW .nil pass0 (pa_c (pe_ix ix_tup (pv 0) pe_int (fun _ _ => rfl)) (pa_c pe_int (pa_c (pe_glob (v := .int 10000000) (by rfl) hinches ⟨_, rfl⟩) pa_nil)))))))), ?_⟩
    cases hx with
    | @tup a xs _ e hl r =>
      have hlen := r.len
      refine ⟨_, rfl, a, xs, rfl, .inr (SqT.of e), rfl, _, rfl, ?_⟩
      by_cases hn : xs.length = 2
      · rw [decide_eq_true (show V.int (xs.length : Int) = V.int 2 by rw [hn]; rfl)]
        refine iteT ?_
        obtain ⟨x1, x2, rfl⟩ := len2 hn
        obtain ⟨d1, d2, rfl, r1, r2⟩ := rds2 r
        have k' : ∀ H', Same H H' → Q (.bl (nameD d1 && wholeD 0 10000000 d2)) H' := k
        have s0 := Same.refl H
        refine ⟨_, rfl, a, _, 0, _, rfl, rfl, SqT.of (s0 _ _ e), rfl, m, x1, d1, rfl, (r1.same s0), fun H1 z1 => ⟨_, rfl, ?_⟩⟩
        have s1 := s0.trans z1
        cases g0 : (nameD d1) with
        | false =>
          have q := k' H1 s1
          rw [g0] at q
          simp only [Bool.false_and] at q
          refine iteF ?_
          exact q
        | true =>
          refine iteT ?_
          have q := k' H1 s1
          rw [g0, Bool.true_and] at q
          exact ⟨_, rfl, a, _, 1, _, rfl, rfl, SqT.of (s1 _ _ e), rfl, m, x2, d2, 0, 10000000, rfl, (r2.same s1), q⟩
      · rw [decide_eq_false (show ¬ V.int (xs.length : Int) = V.int 2 from fun z => hn (by injection z with z; first | lia | omega))]
        refine iteF ?_
        rw [fMeasure_no (by first | lia | omega)] at k
        exact k H (Same.refl H)
theorem scfView : FnScope ["rest"] ["rest"] (defScope sFView) := ⟨rfl, rfl, rfl, by decide +kernel, rfl, by decide +kernel, by decide +kernel⟩
theorem ok_fView {f fN fI : Addr} {fd fdN fdI : FuncData} (F : Fun K "fits_view" "fits_view" sFView f fd) (T : Txt K mg)
    (GN : FnOk P w K mg base CX0 1 fN fdN ["thing"] spName) (mN : mg "is_name" = some (.ref fN)) (kN : PySem.W.keepIn K (.ref fN) = true) (bN : Binds K fdN ["thing"] [])
    (GI : FnOk P w K mg base CX0 3 fI fdI ["thing"] spInch) (mI : mg "is_inch" = some (.ref fI)) (kI : PySem.W.keepIn K (.ref fI) = true) (bI : Binds K fdI ["thing"] []) :
    FnOk P w K mg base CX0 6 f fd ["rest"] (spFits fView) := by
  refine F.ok scfView (fun vs H Q E h => ?_) (fun cdv A outer s H vs Q E hr h => ?_)
  · obtain ⟨m, x, d, rfl, _⟩ := h
    rfl
  · obtain ⟨m, x, ds, rfl, hx, k⟩ := h
    have hr1 : Room 1 _ := hr.mono (by decide)
    have hr2 : Room 2 _ := hr.mono (by decide)
    have hr3 : Room 3 _ := hr.mono (by decide)
    refine ⟨_, pss_one (ps_ret (pe_and (pe_cmpR op_eq (pe_callB call_len_seq (by rfl) T.len PySem.boot_len (pa_c (pv 0) pa_nil)) pe_int (nomark _)) (pe_and (pe_call GN hr1 rfl mN kN bN .nil pass0 (pa_c (pe_ix ix_tup (pv 0) pe_int (fun _ _ => rfl)) pa_nil)) (pe_and (pe_call GI hr3 rfl mI kI bI .nil pass0 (pa_c (pe_ix ix_tup (pv 0) pe_int (fun _ _ => rfl)) pa_nil)) (pe_one (pe_call GN hr1 rfl mN kN bN .nil pass0 (pa_c (pe_ix ix_tup (pv 0) pe_int (fun _ _ => rfl)) pa_nil))))))), ?_⟩
    cases hx with
    | @tup a xs _ e hl r =>
      have hlen := r.len
      refine ⟨_, rfl, a, xs, rfl, .inr (SqT.of e), rfl, _, rfl, ?_⟩
      by_cases hn : xs.length = 3
      · rw [decide_eq_true (show V.int (xs.length : Int) = V.int 3 by rw [hn]; rfl)]
        refine iteT ?_
        obtain ⟨x1, x2, x3, rfl⟩ := len3 hn
        obtain ⟨d1, d2, d3, rfl, r1, r2, r3⟩ := rds3 r
        have k' : ∀ H', Same H H' → Q (.bl (nameD d1 && wholeD 0 9999999 d2 && nameD d3)) H' := k
        have s0 := Same.refl H
        refine ⟨_, rfl, a, _, 0, _, rfl, rfl, SqT.of (s0 _ _ e), rfl, m, x1, d1, rfl, (r1.same s0), fun H1 z1 => ⟨_, rfl, ?_⟩⟩
        have s1 := s0.trans z1
        cases g0 : (nameD d1) with
        | false =>
          have q := k' H1 s1
          rw [g0] at q
          simp only [Bool.false_and] at q
          refine iteF ?_
          exact q
        | true =>
          refine iteT ?_
          refine ⟨_, rfl, a, _, 1, _, rfl, rfl, SqT.of (s1 _ _ e), rfl, m, x2, d2, rfl, (r2.same s1), _, rfl, ?_⟩
          cases g1 : (wholeD 0 9999999 d2) with
          | false =>
            have q := k' H1 s1
            rw [g0, Bool.true_and, g1] at q
            simp only [Bool.false_and] at q
            refine iteF ?_
            exact q
          | true =>
            refine iteT ?_
            refine ⟨_, rfl, a, _, 2, _, rfl, rfl, SqT.of (s1 _ _ e), rfl, m, x3, d3, rfl, (r3.same s1), fun H3 z3 => ?_⟩
            have q := k' H3 (s1.trans z3)
            rw [g0, Bool.true_and, g1, Bool.true_and] at q
            exact q
      · rw [decide_eq_false (show ¬ V.int (xs.length : Int) = V.int 3 from fun z => hn (by injection z with z; first | lia | omega))]
        refine iteF ?_
        rw [fView_no (by first | lia | omega)] at k
        exact k H (Same.refl H)
theorem scfAlone : FnScope ["rest"] ["rest"] (defScope sFAlone) := ⟨rfl, rfl, rfl, by decide +kernel, rfl, by decide +kernel, by decide +kernel⟩
theorem ok_fAlone {f fN : Addr} {fd fdN : FuncData} (F : Fun K "fits_alone" "fits_alone" sFAlone f fd) (T : Txt K mg)
    (GN : FnOk P w K mg base CX0 1 fN fdN ["thing"] spName) (mN : mg "is_name" = some (.ref fN)) (kN : PySem.W.keepIn K (.ref fN) = true) (bN : Binds K fdN ["thing"] []) :
    FnOk P w K mg base CX0 6 f fd ["rest"] (spFits fAlone) := by
  refine F.ok scfAlone (fun vs H Q E h => ?_) (fun cdv A outer s H vs Q E hr h => ?_)
  · obtain ⟨m, x, d, rfl, _⟩ := h
    rfl
  · obtain ⟨m, x, ds, rfl, hx, k⟩ := h
    have hr1 : Room 1 _ := hr.mono (by decide)
    have hr2 : Room 2 _ := hr.mono (by decide)
    have hr3 : Room 3 _ := hr.mono (by decide)
    refine ⟨_, pss_one (ps_ret (pe_and (pe_cmpR op_eq (pe_callB call_len_seq (by rfl) T.len PySem.boot_len (pa_c (pv 0) pa_nil)) pe_int (nomark _)) (pe_one (pe_call GN hr1 rfl mN kN bN .nil pass0 (pa_c (pe_ix ix_tup (pv 0) pe_int (fun _ _ => rfl)) pa_nil))))), ?_⟩
    cases hx with
    | @tup a xs _ e hl r =>
      have hlen := r.len
      refine ⟨_, rfl, a, xs, rfl, .inr (SqT.of e), rfl, _, rfl, ?_⟩
      by_cases hn : xs.length = 1
      · rw [decide_eq_true (show V.int (xs.length : Int) = V.int 1 by rw [hn]; rfl)]
        refine iteT ?_
        obtain ⟨x1, rfl⟩ := len1 hn
        obtain ⟨d1, rfl, r1⟩ := rds1 r
        have k' : ∀ H', Same H H' → Q (.bl (nameD d1)) H' := k
        have s0 := Same.refl H
        refine ⟨_, rfl, a, _, 0, _, rfl, rfl, SqT.of (s0 _ _ e), rfl, m, x1, d1, rfl, (r1.same s0), fun H1 z1 => ?_⟩
        have q := k' H1 (s0.trans z1)
        exact q
      · rw [decide_eq_false (show ¬ V.int (xs.length : Int) = V.int 1 from fun z => hn (by injection z with z; first | lia | omega))]
        refine iteF ?_
        rw [fAlone_no (by first | lia | omega)] at k
        exact k H (Same.refl H)
theorem scfBreach : FnScope ["rest"] ["rest"] (defScope sFBreach) := ⟨rfl, rfl, rfl, by decide +kernel, rfl, by decide +kernel, by decide +kernel⟩
theorem ok_fBreach {f fN fW fI : Addr} {fd fdN fdW fdI : FuncData} (F : Fun K "fits_breach" "fits_breach" sFBreach f fd) (T : Txt K mg)
    (GN : FnOk P w K mg base CX0 1 fN fdN ["thing"] spName) (mN : mg "is_name" = some (.ref fN)) (kN : PySem.W.keepIn K (.ref fN) = true) (bN : Binds K fdN ["thing"] [])
    (GW : FnOk P w K mg base CX0 2 fW fdW ["thing", "least", "most"] spWhole) (mW : mg "is_whole" = some (.ref fW)) (kW : PySem.W.keepIn K (.ref fW) = true) (bW : Binds K fdW ["thing", "least", "most"] [])
    (GI : FnOk P w K mg base CX0 3 fI fdI ["thing"] spInch) (mI : mg "is_inch" = some (.ref fI)) (kI : PySem.W.keepIn K (.ref fI) = true) (bI : Binds K fdI ["thing"] []) :
    FnOk P w K mg base CX0 6 f fd ["rest"] (spFits fBreach) := by
  refine F.ok scfBreach (fun vs H Q E h => ?_) (fun cdv A outer s H vs Q E hr h => ?_)
  · obtain ⟨m, x, d, rfl, _⟩ := h
    rfl
  · obtain ⟨m, x, ds, rfl, hx, k⟩ := h
    have hr1 : Room 1 _ := hr.mono (by decide)
    have hr2 : Room 2 _ := hr.mono (by decide)
    have hr3 : Room 3 _ := hr.mono (by decide)
    obtain ⟨tpence, hpence⟩ := T.pence
    obtain ⟨tspades, hspades⟩ := T.spades
    refine ⟨_, pss_cons (ps_if (PW.pt (pw_or (pt_cmpR op_ne (pe_callB call_len_seq (by rfl) T.len PySem.boot_len (pa_c (pv 0) pa_nil)) pe_int (nomark _)) (pw_or (pt_not (pt_val (pe_call GN hr1 rfl mN kN bN .nil pass0 (pa_c (pe_ix ix_tup (pv 0) pe_int (fun _ _ => rfl)) pa_nil)))) (pw_or1 (pt_not (pt_val (pe_call GI hr3 rfl mI kI bI .nil pass0 (pa_c (pe_ix ix_tup (pv 0) pe_int (fun _ _ => rfl)) pa_nil)))))))) (pss_one (ps_ret pe_bl)) pss_nil) (pss_one (ps_ret (pe_and (pe_call GW hr2 rfl mW kW bW .nil pass0 (pa_c (pe_ix ix_tup (pv 0) pe_int (fun _ _ => rfl)) (pa_c pe_int (pa_c (pe_glob (v := .int 1000000000) (by rfl) hpence ⟨_, rfl⟩) pa_nil)))) (pe_one (pe_call GW hr2 rfl mW kW bW .nil pass0 (pa_c (pe_ix ix_tup (pv 0) pe_int (fun _ _ => rfl)) (pa_c pe_int (pa_c (pe_glob (v := .int 1000000) (by rfl) hspades ⟨_, rfl⟩) pa_nil)))))))), ?_⟩
    cases hx with
    | @tup a xs _ e hl r =>
      have hlen := r.len
      refine ⟨_, rfl, a, xs, rfl, .inr (SqT.of e), rfl, _, rfl, ?_⟩
      by_cases hn : xs.length = 4
      · rw [decide_eq_true (show V.int (xs.length : Int) = V.int 4 by rw [hn]; rfl)]
        refine iteF ?_
        obtain ⟨x1, x2, x3, x4, rfl⟩ := len4 hn
        obtain ⟨d1, d2, d3, d4, rfl, r1, r2, r3, r4⟩ := rds4 r
        have k' : ∀ H', Same H H' → Q (.bl (nameD d1 && wholeD 0 9999999 d2 && wholeD 0 1000000000 d3 && wholeD 0 1000000 d4)) H' := k
        have s0 := Same.refl H
        refine ⟨_, rfl, a, _, 0, _, rfl, rfl, SqT.of (s0 _ _ e), rfl, m, x1, d1, rfl, (r1.same s0), fun H1 z1 => ⟨_, rfl, ?_⟩⟩
        have s1 := s0.trans z1
        cases g0 : (nameD d1) with
        | false =>
          have q := k' H1 s1
          rw [g0] at q
          simp only [Bool.false_and] at q
          refine iteT ?_
          exact q
        | true =>
          refine iteF ?_
          refine ⟨_, rfl, a, _, 1, _, rfl, rfl, SqT.of (s1 _ _ e), rfl, m, x2, d2, rfl, (r2.same s1), _, rfl, ?_⟩
          cases g1 : (wholeD 0 9999999 d2) with
          | false =>
            have q := k' H1 s1
            rw [g0, Bool.true_and, g1] at q
            simp only [Bool.false_and] at q
            refine iteT ?_
            exact q
          | true =>
            refine iteF ?_
            refine ⟨_, rfl, a, _, 2, _, rfl, rfl, SqT.of (s1 _ _ e), rfl, m, x3, d3, 0, 1000000000, rfl, (r3.same s1), _, rfl, ?_⟩
            cases g2 : (wholeD 0 1000000000 d3) with
            | false =>
              have q := k' H1 s1
              rw [g0, Bool.true_and, g1, Bool.true_and, g2] at q
              simp only [Bool.false_and] at q
              refine iteF ?_
              exact q
            | true =>
              refine iteT ?_
              have q := k' H1 s1
              rw [g0, Bool.true_and, g1, Bool.true_and, g2, Bool.true_and] at q
              exact ⟨_, rfl, a, _, 3, _, rfl, rfl, SqT.of (s1 _ _ e), rfl, m, x4, d4, 0, 1000000, rfl, (r4.same s1), q⟩
      · rw [decide_eq_false (show ¬ V.int (xs.length : Int) = V.int 4 from fun z => hn (by injection z with z; first | lia | omega))]
        refine iteT ?_
        rw [fBreach_no (by first | lia | omega)] at k
        exact k H (Same.refl H)
end
end K3

set_option linter.all false
set_option maxRecDepth 100000
set_option Elab.async false
set_option maxHeartbeats 8000000
namespace K3
open PySem L2
noncomputable def fForfeit (ds : List PyData) : Bool := decide (ds.length = 2) && ds.all nameD
noncomputable def fMend : List PyData → Bool
  | [.str a, .str b] => nameB a && nameB b && !decide (a = b)
  | _ => false
theorem fMend_no {ds : List PyData} (h : ¬ (ds.length = 2 ∧ ds.all nameD = true)) : fMend ds = false := by
  unfold fMend
  split
  · rename_i a b
    have : ¬ (nameB a = true ∧ nameB b = true) := fun z => h ⟨rfl, by simp [nameD, z.1, z.2]⟩
    cases ha : nameB a <;> cases hb : nameB b <;> simp_all
  · rfl
theorem names2 {ds : List PyData} (h : ds.length = 2) (g : ds.all nameD = true) : ∃ a b, ds = [.str a, .str b] ∧ nameB a = true ∧ nameB b = true := by
  match ds, h with
  | [d1, d2], _ =>
    simp only [List.all_cons, List.all_nil, Bool.and_true, Bool.and_eq_true] at g
    obtain ⟨g1, g2⟩ := g
    obtain ⟨a, rfl, ha⟩ : ∃ a, d1 = .str a ∧ nameB a = true := by
      cases d1 with
      | str a => exact ⟨a, rfl, g1⟩
      | _ => simp [nameD] at g1
    obtain ⟨b, rfl, hb⟩ : ∃ b, d2 = .str b ∧ nameB b = true := by
      cases d2 with
      | str a => exact ⟨a, rfl, g2⟩
      | _ => simp [nameD] at g2
    exact ⟨a, b, rfl, ha, hb⟩
section
variable {P : Program} {w : World} {K : PySem.W.Frag} {mg : Str → Option Value} {base : Heap}
theorem scfForfeit : FnScope ["rest"] ["rest"] (defScope sFForfeit) := ⟨rfl, rfl, rfl, by decide +kernel, rfl, by decide +kernel, by decide +kernel⟩
theorem ok_fForfeit {f fA : Addr} {fd fdA : FuncData} (F : Fun K "fits_forfeit" "fits_forfeit" sFForfeit f fd) (T : Txt K mg)
    (GA : FnOk P w K mg base CX0 2 fA fdA ["thing"] spAllN) (mA : mg "all_names" = some (.ref fA)) (kA : PySem.W.keepIn K (.ref fA) = true) (bA : Binds K fdA ["thing"] []) :
    FnOk P w K mg base CX0 6 f fd ["rest"] (spFits fForfeit) := by
  refine F.ok scfForfeit (fun vs H Q E h => ?_) (fun cdv A outer s H vs Q E hr h => ?_)
  · obtain ⟨m, x, d, rfl, _⟩ := h
    rfl
  · obtain ⟨m, x, ds, rfl, hx, k⟩ := h
    have hr2 : Room 2 _ := hr.mono (by decide)
    refine ⟨_, pss_one (ps_ret (pe_and (pe_cmpR op_eq (pe_callB call_len_seq (by rfl) T.len PySem.boot_len (pa_c (pv 0) pa_nil)) pe_int (nomark _)) (pe_one (pe_call GA hr2 rfl mA kA bA .nil pass0 (pa_c (pv 0) pa_nil))))), ?_⟩
    have hx' := hx
    cases hx with
    | @tup a xs _ e hl r =>
      have hlen := r.len
      refine ⟨_, rfl, a, xs, rfl, .inr (SqT.of e), rfl, _, rfl, ?_⟩
      unfold fForfeit at k
      by_cases hn : xs.length = 2
      · rw [decide_eq_true (show V.int (xs.length : Int) = V.int 2 by rw [hn]; rfl)]
        refine iteT ?_
        rw [decide_eq_true (show ds.length = 2 by first | lia | omega), Bool.true_and] at k
        exact ⟨_, rfl, m, _, _, rfl, hx', k⟩
      · rw [decide_eq_false (show ¬ V.int (xs.length : Int) = V.int 2 from fun z => hn (by injection z with z; first | lia | omega))]
        refine iteF ?_
        rw [decide_eq_false (show ¬ ds.length = 2 by first | lia | omega)] at k
        exact k H (Same.refl H)
theorem scfMend : FnScope ["rest"] ["rest"] (defScope sFMend) := ⟨rfl, rfl, rfl, by decide +kernel, rfl, by decide +kernel, by decide +kernel⟩
theorem ok_fMend {f fA : Addr} {fd fdA : FuncData} (F : Fun K "fits_mend" "fits_mend" sFMend f fd) (T : Txt K mg)
    (GA : FnOk P w K mg base CX0 2 fA fdA ["thing"] spAllN) (mA : mg "all_names" = some (.ref fA)) (kA : PySem.W.keepIn K (.ref fA) = true) (bA : Binds K fdA ["thing"] []) :
    FnOk P w K mg base CX0 6 f fd ["rest"] (spFits fMend) := by
  refine F.ok scfMend (fun vs H Q E h => ?_) (fun cdv A outer s H vs Q E hr h => ?_)
  · obtain ⟨m, x, d, rfl, _⟩ := h
    rfl
  · obtain ⟨m, x, ds, rfl, hx, k⟩ := h
    have hr2 : Room 2 _ := hr.mono (by decide)
    refine ⟨_, pss_one (ps_ret (pe_and (pe_cmpR op_eq (pe_callB call_len_seq (by rfl) T.len PySem.boot_len (pa_c (pv 0) pa_nil)) pe_int (nomark _)) (pe_and (pe_call GA hr2 rfl mA kA bA .nil pass0 (pa_c (pv 0) pa_nil)) (pe_one (pe_cmpR op_ne (pe_ix ix_tup (pv 0) pe_int (fun _ _ => rfl)) (pe_ix ix_tup (pv 0) pe_int (fun _ _ => rfl)) (nomark _)))))), ?_⟩
    have hx' := hx
    cases hx with
    | @tup a xs _ e hl r =>
      have hlen := r.len
      refine ⟨_, rfl, a, xs, rfl, .inr (SqT.of e), rfl, _, rfl, ?_⟩
      by_cases hn : xs.length = 2
      · rw [decide_eq_true (show V.int (xs.length : Int) = V.int 2 by rw [hn]; rfl)]
        refine iteT ?_
        refine ⟨_, rfl, m, _, _, rfl, hx', fun H1 s1 => ⟨_, rfl, ?_⟩⟩
        show if ds.all nameD = true then _ else _
        refine ite2 (fun g => ?_) (fun g => ?_)
        · obtain ⟨z1, z2, rfl, h1, h2⟩ := names2 (by first | lia | omega) g
          cases r with
          | cons r1 r =>
            cases r with
            | cons r2 r =>
              cases r
              cases r1
              cases r2
              refine ⟨_, rfl, a, _, 0, _, rfl, rfl, SqT.of (s1 _ _ e), rfl, _, rfl, a, _, 1, _, rfl, rfl, SqT.of (s1 _ _ e), rfl, rfl, ?_⟩
              have q := k H1 s1
              have ef : fMend [.str z1, .str z2] = !decide (V.str z1 = V.str z2) := by
                show (nameB z1 && nameB z2 && !decide (z1 = z2)) = _
                rw [h1, h2]
                by_cases hz : z1 = z2
                · subst hz; simp
                · rw [decide_eq_false hz, decide_eq_false (fun e => hz (by injection e))]; rfl
              rw [ef] at q
              exact q
        · rw [fMend_no fun z => g z.2] at k
          exact k H1 s1
      · rw [decide_eq_false (show ¬ V.int (xs.length : Int) = V.int 2 from fun z => hn (by injection z with z; first | lia | omega))]
        refine iteF ?_
        rw [fMend_no fun z => hn (by first | lia | omega)] at k
        exact k H (Same.refl H)
end
end K3

set_option linter.all false
set_option maxRecDepth 100000
set_option Elab.async false
set_option maxHeartbeats 8000000
namespace K3
open PySem L2
noncomputable def risingB (ss : List Str) : Bool := decide (ss.Pairwise fun a b => a.cps.toList < b.cps.toList)
noncomputable def strD : PyData → Str | .str z => z | _ => Str.ofString ""
noncomputable def headS : PyData → Str
  | .tuple (.str z :: _) => z
  | _ => Str.ofString ""
noncomputable def arePD : PyData → Bool
  | .tuple ds => ds.all partD && decide (2 ≤ ds.length ∧ ds.length ≤ 6) && risingB (ds.map headS)
  | _ => false
noncomputable def areLD : PyData → Bool
  | .tuple ds => ds.all nameD && decide (2 ≤ ds.length ∧ ds.length ≤ 6) && risingB (ds.map strD)
  | _ => false
inductive I_spRising (vs : List V) (H : Hp) (Q : VK) (u3_ : XK) : Prop
  | mk (a : Addr) (ss : List Str) (q0 : vs = [.ref a]) (q1 : (H a = some (.lst (ss.map V.str)) ∨ H a = some (.tup (ss.map V.str)))) (q2 : ss.length ≤ 6) (q3 : ∀ H', Same H H' → Q (.bl (risingB ss)) H') : I_spRising vs H Q u3_
noncomputable def spRising : Sp := fun vs H Q u3_ => I_spRising vs H Q u3_
inductive I_spAreP (vs : List V) (H : Hp) (Q : VK) (u3_ : XK) : Prop
  | mk (m : Bool) (x : V) (d : PyData) (q0 : vs = [x]) (q1 : RdV m H x d) (q2 : ∀ H', Same H H' → Q (.bl (arePD d)) H') : I_spAreP vs H Q u3_
noncomputable def spAreP : Sp := fun vs H Q u3_ => I_spAreP vs H Q u3_
inductive I_spAreL (vs : List V) (H : Hp) (Q : VK) (u3_ : XK) : Prop
  | mk (m : Bool) (x : V) (d : PyData) (q0 : vs = [x]) (q1 : RdV m H x d) (q2 : ∀ H', Same H H' → Q (.bl (areLD d)) H') : I_spAreL vs H Q u3_
noncomputable def spAreL : Sp := fun vs H Q u3_ => I_spAreL vs H Q u3_
theorem names_read {m : Bool} {H : Hp} : ∀ {xs : List V} {ds : List PyData}, RdVs m H xs ds → ds.all nameD = true → xs = (ds.map strD).map V.str
  | _, _, .nil, _ => rfl
  | _, _, .cons (d := d) r rs, h => by
    rw [List.all_cons, Bool.and_eq_true] at h
    have ih := names_read rs h.2
    cases d with
    | str z =>
      cases r
      rw [ih]
      rfl
    | _ => simp [nameD] at h
section
variable {P : Program} {w : World} {K : PySem.W.Frag} {mg : Str → Option Value} {base : Heap}
theorem scAreL : FnScope ["thing"] ["thing"] (defScope sAreLands) := ⟨rfl, rfl, rfl, by decide +kernel, rfl, by decide +kernel, by decide +kernel⟩
theorem ok_areL {f fA fR : Addr} {fd fdA fdR : FuncData} (F : Fun K "are_lands" "are_lands" sAreLands f fd) (T : Txt K mg)
    (GA : FnOk P w K mg base CX0 2 fA fdA ["thing"] spAllN) (mA : mg "all_names" = some (.ref fA)) (kA : PySem.W.keepIn K (.ref fA) = true) (bA : Binds K fdA ["thing"] [])
    (GR : FnOk P w K mg base CX0 1 fR fdR ["things"] spRising) (mR : mg "is_rising" = some (.ref fR)) (kR : PySem.W.keepIn K (.ref fR) = true) (bR : Binds K fdR ["things"] []) :
    FnOk P w K mg base CX0 5 f fd ["thing"] spAreL := by
  refine F.ok scAreL (fun vs H Q E h => ?_) (fun cdv A outer s H vs Q E hr h => ?_)
  · obtain ⟨m, x, d, rfl, _⟩ := h
    rfl
  · obtain ⟨m, x, d, rfl, hx, k⟩ := h
    have hr1 : Room 1 _ := hr.mono (by decide)
    have hr2 : Room 2 _ := hr.mono (by decide)
    obtain ⟨tf, hfew⟩ := T.fewest
    obtain ⟨tm, hmost⟩ := T.most
    refine ⟨_, pss_one (ps_ret (pe_and (pe_call GA hr2 rfl mA kA bA .nil pass0 (pa_c (pv 0) pa_nil)) (pe_and (pe_chain op_le op_le (pe_glob (v := .int 2) (by rfl) hfew ⟨_, rfl⟩) (pe_callB call_len_seq (by rfl) T.len PySem.boot_len (pa_c (pv 0) pa_nil)) (pe_glob (v := .int 6) (by rfl) hmost ⟨_, rfl⟩)) (pe_one (pe_call GR hr1 rfl mR kR bR .nil pass0 (pa_c (pv 0) pa_nil)))))), ?_⟩
    refine ⟨_, rfl, m, x, d, rfl, hx, fun H1 s1 => ⟨_, rfl, ?_⟩⟩
    refine ite2 (fun g => ?_) (fun g => ?_)
    · obtain ⟨ds, rfl⟩ : ∃ ds, d = .tuple ds := by
        cases d with
        | tuple z => exact ⟨z, rfl⟩
        | _ => simp [namesD] at g
      have g' : ds.all nameD = true := g
      cases hx with
      | @tup a xs _ e hl r =>
        have hlen := r.len
        have k' : ∀ H', Same H H' → Q (.bl (decide (2 ≤ ds.length ∧ ds.length ≤ 6) && risingB (ds.map strD))) H' := fun H' s' => by
          have q : Q (.bl (ds.all nameD && decide (2 ≤ ds.length ∧ ds.length ≤ 6) && risingB (ds.map strD))) H' := k H' s'
          rw [g', Bool.true_and] at q
          exact q
        have bad : ¬ (2 ≤ ds.length ∧ ds.length ≤ 6) → Q (.bl false) H1 := fun h => by
          have q := k' H1 s1
          rw [decide_eq_false h] at q
          exact q
        refine ⟨_, rfl, a, xs, rfl, .inr (SqT.of (s1 _ _ e)), _, _, rfl, rfl, _, rfl, ?_⟩
        refine ite2 (fun g1 => ?_) (fun g1 => ?_)
        · have g1' : (2 : Int) ≤ xs.length := of_decide_eq_true g1
          refine ⟨_, _, rfl, rfl, _, rfl, ?_⟩
          refine ite2 (fun g2 => ?_) (fun g2 => ?_)
          · have g2' : (xs.length : Int) ≤ 6 := of_decide_eq_true g2
            refine ⟨_, rfl, a, ds.map strD, rfl, .inr ?_, by rw [List.length_map]; first | lia | omega, fun H2 s2 => ?_⟩
            · rw [← names_read r g']
              exact s1 _ _ e
            · have q := k' H2 (s1.trans s2)
              rw [decide_eq_true (by first | lia | omega), Bool.true_and] at q
              exact q
          · have g2' : ¬ (xs.length : Int) ≤ 6 := fun z => g2 (decide_eq_true z)
            exact bad (by first | lia | omega)
        · have g1' : ¬ (2 : Int) ≤ xs.length := fun z => g1 (decide_eq_true z)
          refine ⟨_, rfl, ?_⟩
          refine iteF ?_
          exact bad (by first | lia | omega)
    · have g' : namesD d = false := by simpa using g
      have e : areLD d = false := by
        cases d with
        | tuple ds =>
          have z : ds.all nameD = false := g'
          show (ds.all nameD && decide (2 ≤ ds.length ∧ ds.length ≤ 6) && risingB (ds.map strD)) = false
          rw [z]
          rfl
        | _ => rfl
      rw [e] at k
      exact k H1 s1
theorem scAreP : FnScope ["thing"] ["thing"] (defScope sAreParts) := ⟨rfl, rfl, rfl, by decide +kernel, rfl, by decide +kernel, by decide +kernel⟩
theorem part_head {m : Bool} {H : Hp} {x : V} {d : PyData} (r : RdV m H x d) (h : partD d = true) : ∃ a xs, x = .ref a ∧ H a = some (.tup xs) ∧ atI xs 0 = some (V.str (headS d)) := by
  cases d with
  | tuple ds =>
    cases r with
    | @tup a xs _ e _ r =>
      cases r with
      | nil => simp [partD] at h
      | @cons x1 d1 _ _ r1 rs =>
        have hn : nameD d1 = true := by
          unfold partD at h
          split at h
          · rename_i e1
            cases e1
            simp only [Bool.and_eq_true] at h
            exact h.1.1
          · cases h
        cases d1 with
        | str z =>
          cases r1
          refine ⟨a, _, rfl, e, ?_⟩
          unfold atI ixN
          rw [if_pos (by decide), if_pos (by rw [List.length_cons]; first | lia | omega)]
          rfl
        | _ => simp [nameD] at hn
  | _ => simp [partD] at h
theorem ok_areP {f fA fR : Addr} {fd fdA fdR : FuncData} (F : Fun K "are_parts" "are_parts" sAreParts f fd) (T : Txt K mg)
    (GA : FnOk P w K mg base CX0 4 fA fdA ["thing"] spAllP) (mA : mg "all_parts" = some (.ref fA)) (kA : PySem.W.keepIn K (.ref fA) = true) (bA : Binds K fdA ["thing"] [])
    (GR : FnOk P w K mg base CX0 1 fR fdR ["things"] spRising) (mR : mg "is_rising" = some (.ref fR)) (kR : PySem.W.keepIn K (.ref fR) = true) (bR : Binds K fdR ["things"] []) :
    FnOk P w K mg base CX0 5 f fd ["thing"] spAreP := by
  refine F.ok scAreP (fun vs H Q E h => ?_) (fun cdv A outer s H vs Q E hr h => ?_)
  · obtain ⟨m, x, d, rfl, _⟩ := h
    rfl
  · obtain ⟨m, x, d, rfl, hx, k⟩ := h
    have hr1 : Room 1 _ := hr.mono (by decide)
    obtain ⟨tf, hfew⟩ := T.fewest
    obtain ⟨tm, hmost⟩ := T.most
    refine ⟨_, pss_cons (ps_if (PW.pt (pw_or (pt_not (pt_val (pe_call GA hr rfl mA kA bA .nil pass0 (pa_c (pv 0) pa_nil)))) (pw_or1 (pt_not (pt_chain op_le op_le (pe_glob (v := .int 2) (by rfl) hfew ⟨_, rfl⟩) (pe_callB call_len_seq (by rfl) T.len PySem.boot_len (pa_c (pv 0) pa_nil)) (pe_glob (v := .int 6) (by rfl) hmost ⟨_, rfl⟩)))))) (pss_one (ps_ret pe_bl)) pss_nil)
      (pss_one (ps_ret (pe_call GR hr1 rfl mR kR bR .nil pass0 (pa_c (pe_comp (N := ["part"]) (src := [none]) (osc := defScope sAreParts) (oN := ["thing"]) ⟨by rfl, by decide +kernel, by decide +kernel, by decide +kernel, rfl, by rfl⟩ (pi_tup (pv 0))
          fun cl s H fp pins C => ⟨pg_name (i := 0) (show (["part"] : List Str).Nodup by decide +kernel) rfl (Or.inl rfl), pts_nil, pe_ix (r := rIxT K) ix_tup (pv 0) pe_int (fun _ _ => rfl)⟩) pa_nil)))), ?_⟩
    refine ⟨_, rfl, m, x, d, rfl, hx, fun H1 s1 => ⟨_, rfl, ?_⟩⟩
    cases g : partsD d with
    | false =>
      refine iteT ?_
      have e : arePD d = false := by
        cases d with
        | tuple ds =>
          have z : ds.all partD = false := g
          show (ds.all partD && decide (2 ≤ ds.length ∧ ds.length ≤ 6) && risingB (ds.map headS)) = false
          rw [z]
          rfl
        | _ => rfl
      rw [e] at k
      exact k H1 s1
    | true =>
      refine iteF ?_
      obtain ⟨ds, rfl⟩ : ∃ ds, d = .tuple ds := by
        cases d with
        | tuple z => exact ⟨z, rfl⟩
        | _ => simp [partsD] at g
      have g' : ds.all partD = true := g
      cases hx with
      | @tup a xs _ e hl r =>
        have hlen := r.len
        have k' : ∀ H', Same H H' → Q (.bl (decide (2 ≤ ds.length ∧ ds.length ≤ 6) && risingB (ds.map headS))) H' := fun H' s' => by
          have q : Q (.bl (ds.all partD && decide (2 ≤ ds.length ∧ ds.length ≤ 6) && risingB (ds.map headS))) H' := k H' s'
          rw [g', Bool.true_and] at q
          exact q
        have bad : ¬ (2 ≤ ds.length ∧ ds.length ≤ 6) → Q (.bl false) H1 := fun h => by
          have q := k' H1 s1
          rw [decide_eq_false h] at q
          exact q
        refine ⟨_, rfl, a, xs, rfl, .inr (SqT.of (s1 _ _ e)), _, _, rfl, rfl, _, rfl, ?_⟩
        refine ite2 (fun g1 => ?_) (fun g1 => ?_)
        · have g1' : (2 : Int) ≤ xs.length := of_decide_eq_true g1
          refine ⟨_, _, rfl, rfl, _, rfl, ?_⟩
          by_cases g2 : (xs.length : Int) ≤ 6
          · rw [decide_eq_true g2]
            refine iteF ?_
            refine ⟨_, rfl, a, rfl, ⟨xs, SqT.of (s1 _ _ e)⟩, ?_⟩
            refine comp_tup (xs := xs) (fun i ys σ H' => Same H1 H' ∧ ys = ((ds.take i).map fun d => V.str (headS d)) ∧ ∃ o, σ = [o]) ⟨Same.refl H1, rfl, none, rfl⟩ (sizeLine_big (by first | lia | omega)) (fun i ys σ H' p => by rw [p.2.1, List.length_map, List.length_take]; first | lia | omega) (fun i ys σ H' p => SqT.of (p.1 _ _ (s1 _ _ e))) ?_ ?_
            · rintro i y ys σ H' hy ⟨S, rfl, o, rfl⟩
              dsimp only [gName]
              obtain ⟨d', hd', r'⟩ := r.at hy
              obtain ⟨b, zs, rfl, hb, hat⟩ := part_head ((r'.same s1).same S) (List.all_eq_true.mp g' d' (List.mem_of_getElem? hd'))
              refine iteT ?_
              refine ⟨_, rfl, b, zs, 0, _, rfl, rfl, SqT.of hb, hat, S, ?_, _, rfl⟩
              rw [List.take_add_one, hd', List.map_append]
              rfl
            · rintro ys σ H2 ⟨S, rfl, o, rfl⟩ D hD
              have etk : List.take xs.length ds = ds := List.take_of_length_le (by first | lia | omega)
              rw [etk]
              have S1 := S.trans (Same.new (o := .lst (ds.map fun d => V.str (headS d))) hD)
              refine ⟨D, ds.map headS, rfl, .inl (by rw [upd_same, List.map_map]; rfl), by rw [List.length_map]; first | lia | omega, fun H3 s3 => ?_⟩
              have q := k' H3 ((s1.trans S1).trans s3)
              rw [decide_eq_true (by first | lia | omega), Bool.true_and] at q
              exact q
          · rw [decide_eq_false g2]
            refine iteT ?_
            exact bad (by first | lia | omega)
        · have g1' : ¬ (2 : Int) ≤ xs.length := fun z => g1 (decide_eq_true z)
          refine ⟨_, rfl, ?_⟩
          refine iteT ?_
          exact bad (by first | lia | omega)
end
end K3

set_option linter.all false
set_option maxRecDepth 100000
set_option Elab.async false
set_option maxHeartbeats 8000000
namespace K3
open PySem L2
noncomputable def fPart : List PyData → Bool
  | [d1, d2] => nameD d1 && arePD d2
  | _ => false
noncomputable def fJoin : List PyData → Bool
  | [d1, d2] => areLD d1 && nameD d2
  | _ => false
theorem fPart_no {ds : List PyData} (h : ds.length ≠ 2) : fPart ds = false := by
  match ds, h with
  | [], _ => rfl
  | [_], _ => rfl
  | [_, _], z => exact absurd rfl z
  | _ :: _ :: _ :: _, _ => rfl
theorem fJoin_no {ds : List PyData} (h : ds.length ≠ 2) : fJoin ds = false := by
  match ds, h with
  | [], _ => rfl
  | [_], _ => rfl
  | [_, _], z => exact absurd rfl z
  | _ :: _ :: _ :: _, _ => rfl
section
variable {P : Program} {w : World} {K : PySem.W.Frag} {mg : Str → Option Value} {base : Heap}
theorem scfPart : FnScope ["rest"] ["rest"] (defScope sFPart) := ⟨rfl, rfl, rfl, by decide +kernel, rfl, by decide +kernel, by decide +kernel⟩
theorem ok_fPart {f fN fA : Addr} {fd fdN fdA : FuncData} (F : Fun K "fits_part" "fits_part" sFPart f fd) (T : Txt K mg)
    (GN : FnOk P w K mg base CX0 1 fN fdN ["thing"] spName) (mN : mg "is_name" = some (.ref fN)) (kN : PySem.W.keepIn K (.ref fN) = true) (bN : Binds K fdN ["thing"] [])
    (GA : FnOk P w K mg base CX0 5 fA fdA ["thing"] spAreP) (mA : mg "are_parts" = some (.ref fA)) (kA : PySem.W.keepIn K (.ref fA) = true) (bA : Binds K fdA ["thing"] []) :
    FnOk P w K mg base CX0 6 f fd ["rest"] (spFits fPart) := by
  refine F.ok scfPart (fun vs H Q E h => ?_) (fun cdv A outer s H vs Q E hr h => ?_)
  · obtain ⟨m, x, d, rfl, _⟩ := h
    rfl
  · obtain ⟨m, x, ds, rfl, hx, k⟩ := h
    have hr1 : Room 1 _ := hr.mono (by decide)
    refine ⟨_, pss_one (ps_ret (pe_and (pe_cmpR op_eq (pe_callB call_len_seq (by rfl) T.len PySem.boot_len (pa_c (pv 0) pa_nil)) pe_int (nomark _)) (pe_and (pe_call GN hr1 rfl mN kN bN .nil pass0 (pa_c (pe_ix ix_tup (pv 0) pe_int (fun _ _ => rfl)) pa_nil)) (pe_one (pe_call GA hr rfl mA kA bA .nil pass0 (pa_c (pe_ix ix_tup (pv 0) pe_int (fun _ _ => rfl)) pa_nil)))))), ?_⟩
    cases hx with
    | @tup a xs _ e hl r =>
      have hlen := r.len
      refine ⟨_, rfl, a, xs, rfl, .inr (SqT.of e), rfl, _, rfl, ?_⟩
      by_cases hn : xs.length = 2
      · rw [decide_eq_true (show V.int (xs.length : Int) = V.int 2 by rw [hn]; rfl)]
        refine iteT ?_
        obtain ⟨x1, x2, rfl⟩ := len2 hn
        obtain ⟨d1, d2, rfl, r1, r2⟩ := rds2 r
        have k' : ∀ H', Same H H' → Q (.bl (nameD d1 && arePD d2)) H' := k
        refine ⟨_, rfl, a, _, 0, _, rfl, rfl, SqT.of e, rfl, m, x1, d1, rfl, r1, fun H1 s1 => ⟨_, rfl, ?_⟩⟩
        refine ite2 (fun g => ?_) (fun g => ?_)
        · refine ⟨_, rfl, a, _, 1, _, rfl, rfl, SqT.of (s1 _ _ e), rfl, m, x2, d2, rfl, r2.same s1, fun H2 s2 => ?_⟩
          have q := k' H2 (s1.trans s2)
          rw [g, Bool.true_and] at q
          exact q
        · have q := k' H1 s1
          rw [(by simpa using g : nameD d1 = false)] at q
          exact q
      · rw [decide_eq_false (show ¬ V.int (xs.length : Int) = V.int 2 from fun z => hn (by injection z with z; first | lia | omega))]
        refine iteF ?_
        rw [fPart_no (by first | lia | omega)] at k
        exact k H (Same.refl H)
theorem scfJoin : FnScope ["rest"] ["rest"] (defScope sFJoin) := ⟨rfl, rfl, rfl, by decide +kernel, rfl, by decide +kernel, by decide +kernel⟩
theorem ok_fJoin {f fN fA : Addr} {fd fdN fdA : FuncData} (F : Fun K "fits_join" "fits_join" sFJoin f fd) (T : Txt K mg)
    (GN : FnOk P w K mg base CX0 1 fN fdN ["thing"] spName) (mN : mg "is_name" = some (.ref fN)) (kN : PySem.W.keepIn K (.ref fN) = true) (bN : Binds K fdN ["thing"] [])
    (GA : FnOk P w K mg base CX0 5 fA fdA ["thing"] spAreL) (mA : mg "are_lands" = some (.ref fA)) (kA : PySem.W.keepIn K (.ref fA) = true) (bA : Binds K fdA ["thing"] []) :
    FnOk P w K mg base CX0 6 f fd ["rest"] (spFits fJoin) := by
  refine F.ok scfJoin (fun vs H Q E h => ?_) (fun cdv A outer s H vs Q E hr h => ?_)
  · obtain ⟨m, x, d, rfl, _⟩ := h
    rfl
  · obtain ⟨m, x, ds, rfl, hx, k⟩ := h
    have hr1 : Room 1 _ := hr.mono (by decide)
    refine ⟨_, pss_one (ps_ret (pe_and (pe_cmpR op_eq (pe_callB call_len_seq (by rfl) T.len PySem.boot_len (pa_c (pv 0) pa_nil)) pe_int (nomark _)) (pe_and (pe_call GA hr rfl mA kA bA .nil pass0 (pa_c (pe_ix ix_tup (pv 0) pe_int (fun _ _ => rfl)) pa_nil)) (pe_one (pe_call GN hr1 rfl mN kN bN .nil pass0 (pa_c (pe_ix ix_tup (pv 0) pe_int (fun _ _ => rfl)) pa_nil)))))), ?_⟩
    cases hx with
    | @tup a xs _ e hl r =>
      have hlen := r.len
      refine ⟨_, rfl, a, xs, rfl, .inr (SqT.of e), rfl, _, rfl, ?_⟩
      by_cases hn : xs.length = 2
      · rw [decide_eq_true (show V.int (xs.length : Int) = V.int 2 by rw [hn]; rfl)]
        refine iteT ?_
        obtain ⟨x1, x2, rfl⟩ := len2 hn
        obtain ⟨d1, d2, rfl, r1, r2⟩ := rds2 r
        have k' : ∀ H', Same H H' → Q (.bl (areLD d1 && nameD d2)) H' := k
        refine ⟨_, rfl, a, _, 0, _, rfl, rfl, SqT.of e, rfl, m, x1, d1, rfl, r1, fun H1 s1 => ⟨_, rfl, ?_⟩⟩
        refine ite2 (fun g => ?_) (fun g => ?_)
        · refine ⟨_, rfl, a, _, 1, _, rfl, rfl, SqT.of (s1 _ _ e), rfl, m, x2, d2, rfl, r2.same s1, fun H2 s2 => ?_⟩
          have q := k' H2 (s1.trans s2)
          rw [g, Bool.true_and] at q
          exact q
        · have q := k' H1 s1
          rw [(by simpa using g : areLD d1 = false)] at q
          exact q
      · rw [decide_eq_false (show ¬ V.int (xs.length : Int) = V.int 2 from fun z => hn (by injection z with z; first | lia | omega))]
        refine iteF ?_
        rw [fJoin_no (by first | lia | omega)] at k
        exact k H (Same.refl H)
end
end K3

set_option linter.all false
set_option maxRecDepth 100000
set_option Elab.async false
set_option maxHeartbeats 8000000
namespace K3
open PySem L2
noncomputable def words8 : List Str := ["part", "join", "forfeit", "measure", "mend", "alone", "breach", "view"]
noncomputable def fitD (kind : Str) (ds : List PyData) : Bool :=
  if kind = "part" then fPart ds else if kind = "join" then fJoin ds else if kind = "forfeit" then fForfeit ds else if kind = "measure" then fMeasure ds else if kind = "mend" then fMend ds else if kind = "alone" then fAlone ds else if kind = "breach" then fBreach ds else fView ds
noncomputable def rowD : PyData → Bool
  | .tuple (.str kind :: name :: day :: rest) => decide (kind ∈ words8) && (nameD name && (wholeD 0 9999 day && fitD kind rest))
  | _ => false
inductive I_spIsRow (vs : List V) (H : Hp) (Q : VK) (u3_ : XK) : Prop
  | mk (m : Bool) (x : V) (d : PyData) (q0 : vs = [x]) (q1 : RdV m H x d) (q2 : ∀ H', Same H H' → Q (.bl (rowD d)) H') : I_spIsRow vs H Q u3_
noncomputable def spIsRow : Sp := fun vs H Q u3_ => I_spIsRow vs H Q u3_
theorem rowD_short {ds : List PyData} (h : ds.length < 3) : rowD (.tuple ds) = false := by
  match ds, h with
  | [], _ => rfl
  | [d], _ => cases d <;> rfl
  | [d, _], _ => cases d <;> rfl
theorem rowD_kind {d1 d2 d3 : PyData} {ds : List PyData} (h : isStr d1 = false) : rowD (.tuple (d1 :: d2 :: d3 :: ds)) = false := by
  cases d1 with
  | str z => simp [isStr] at h
  | _ => rfl
section
variable {P : Program} {w : World} {K : PySem.W.Frag} {mg : Str → Option Value} {base : Heap}
theorem scIsRow : FnScope ["thing", "kind", "name", "day", "fits"] ["thing"] (defScope sIsRow) := ⟨rfl, rfl, rfl, by decide +kernel, rfl, by decide +kernel, by decide +kernel⟩
theorem ok_isRow {f fN fW ra : Addr} {fd fdN fdW : FuncData} {rvs : List (Key × Value)} {kvs : List (Key × V)} (F : Fun K "is_row" "is_row" sIsRow f fd) (T : Txt K mg)
    (hdF : ∀ h : Heap, K.In h → h.DictOf (mixKind P w) ra rvs) (rel : KV kvs rvs) (hz : (ra == sysModules) = false) (mF : mg "FORMS" = some (.ref ra))
    (hin : ∀ kind : Str, (valV kvs (Sum.inr kind)).isSome = decide (kind ∈ words8))
    (hfn : ∀ (kind : Str) (v : V), valV kvs (Sum.inr kind) = some v → ∃ (a : Addr) (fd : FuncData), v = .ref a ∧ FnOk P w K mg base CX0 6 a fd ["rest"] (spFits (fitD kind)) ∧ PySem.W.keepIn K (.ref a) = true ∧ Binds K fd ["rest"] [])
    (GN : FnOk P w K mg base CX0 1 fN fdN ["thing"] spName) (mN : mg "is_name" = some (.ref fN)) (kN : PySem.W.keepIn K (.ref fN) = true) (bN : Binds K fdN ["thing"] [])
    (GW : FnOk P w K mg base CX0 2 fW fdW ["thing", "least", "most"] spWhole) (mW : mg "is_whole" = some (.ref fW)) (kW : PySem.W.keepIn K (.ref fW) = true) (bW : Binds K fdW ["thing", "least", "most"] []) :
    FnOk P w K mg base CX0 7 f fd ["thing"] spIsRow := by
  refine F.ok scIsRow (fun vs H Q E h => ?_) (fun cdv A outer s H vs Q E hr h => ?_)
  · obtain ⟨m, x, d, rfl, _⟩ := h
    rfl
  · obtain ⟨m, x, d, rfl, hx, k⟩ := h
    have hr1 : Room 1 _ := hr.mono (by decide)
    have hr2 : Room 2 _ := hr.mono (by decide)
    obtain ⟨tl, hlast⟩ := T.lastDay
    refine ⟨_, pss_cons (ps_if (PW.pt (pw_or (pt_not (pt_val (pe_callB call_isinst (by rfl) T.isi (by kernel_rfl) (pa_c (pv 0) (pa_c (pe_bltn (v := .ty "tuple") (by rfl) T.tuple (by kernel_rfl) rfl) pa_nil)))))
        (pw_or1 (pt_cmpR op_lt (pe_callB call_len_seq (by rfl) T.len PySem.boot_len (pa_c (pv 0) pa_nil)) pe_int (nomark _))))) (pss_one (ps_ret pe_bl)) pss_nil)
      (pss_cons (ps_asg (pe_slice sl_tupA (pv 0) po_none (po_some pe_int)) (pg_tup rfl (pgs_cons (pg_name (i := 1) scIsRow.nd rfl (Or.inl rfl)) (pgs_cons (pg_name (i := 2) scIsRow.nd rfl (Or.inl rfl)) (pgs_cons (pg_name (i := 3) scIsRow.nd rfl (Or.inl rfl)) pgs_nil)))))
      (pss_cons (ps_if (PW.pt (pw_or (pt_not (pt_val (pe_callB call_isinst (by rfl) T.isi (by kernel_rfl) (pa_c (pv 1) (pa_c (pe_bltn (v := .ty "str") (by rfl) T.str (by kernel_rfl) rfl) pa_nil)))))
        (pw_or1 (pt_cmpR (op_notInK hdF rel hz) (pv 1) (pe_glob (v := .ref ra) (by rfl) mF rfl) (by with_unfolding_all rfl))))) (pss_one (ps_ret pe_bl)) pss_nil)
      (pss_cons (ps_if (PW.pt (pw_or (pt_not (pt_val (pe_call GN hr1 rfl mN kN bN .nil pass0 (pa_c (pv 2) pa_nil)))) (pw_or1 (pt_not (pt_val (pe_call GW hr2 rfl mW kW bW .nil pass0 (pa_c (pv 3) (pa_c pe_int (pa_c (pe_glob (v := .int 9999) (by rfl) hlast ⟨_, rfl⟩) pa_nil))))))))) (pss_one (ps_ret pe_bl)) pss_nil)
      (pss_cons (ps_set (i := 4) scIsRow.nd rfl (Or.inl rfl) (pe_kget hdF rel (by rfl) mF (pv 1) (fun _ _ => rfl)))
      (pss_one (ps_ret (pe_callV (k := 6) (ps := ["rest"]) (pv 4) hr (pa_c (pe_slice sl_tupA (pv 0) (po_some pe_int) po_none) pa_nil)))))))), ?_⟩
    refine ⟨_, rfl, _, "tuple", _, _, rfl, ty_of hx, kit_tup d, _, rfl, ?_⟩
    cases hd : isTup d with
    | false =>
      have e : rowD d = false := by
        cases d with
        | tuple ds => simp [isTup] at hd
        | _ => rfl
      rw [e] at k
      exact k H (Same.refl H)
    | true =>
      obtain ⟨ds, rfl⟩ : ∃ ds, d = .tuple ds := by
        cases d with
        | tuple z => exact ⟨z, rfl⟩
        | _ => simp [isTup] at hd
      cases hx with
      | @tup a xs _ e hl r =>
        have hlen := r.len
        refine iteF ?_
        refine ⟨_, rfl, a, xs, rfl, .inr (SqT.of e), _, _, rfl, rfl, _, rfl, ?_⟩
        by_cases hn : (xs.length : Int) < 3
        · rw [decide_eq_true hn]
          refine iteT ?_
          rw [rowD_short (by first | lia | omega)] at k
          exact k H (Same.refl H)
        · rw [decide_eq_false hn]
          refine iteF ?_
          obtain ⟨x1, x2, x3, xs', rfl⟩ : ∃ x1 x2 x3 xs', xs = x1 :: x2 :: x3 :: xs' := by
            match xs, hn with
            | [], z => exact absurd (by decide) z
            | [_], z => exact absurd (show (1 : Int) < 3 by decide) z
            | [_, _], z => exact absurd (show (2 : Int) < 3 by decide) z
            | a :: b :: c :: r, _ => exact ⟨a, b, c, r, rfl⟩
          cases r with
          | @cons _ d1 _ _ r1 r =>
          cases r with
          | @cons _ d2 _ _ r2 r =>
          cases r with
          | @cons _ d3 _ ds rr3 rr =>
          refine ⟨_, rfl, _, rfl, a, _, rfl, e, fun t H1 s1 ht => ?_⟩
          have ec : cutV (x1 :: x2 :: x3 :: xs') none (some 3) = [x1, x2, x3] := cut_to (α := Nat) (x1 :: x2 :: x3 :: xs') 3
          rw [ec] at ht
          refine ⟨t, _, rfl, SqT.of ht, rfl, _, _, rfl, _, _, rfl, _, _, rfl, rfl, ?_⟩
          refine ⟨_, rfl, _, "str", _, _, rfl, ty_of (r1.same s1), kit_str d1, _, rfl, ?_⟩
          cases hk : isStr d1 with
          | false =>
            rw [rowD_kind hk] at k
            exact k H1 s1
          | true =>
            obtain ⟨kind, rfl⟩ : ∃ z, d1 = .str z := by
              cases d1 with
              | str z => exact ⟨z, rfl⟩
              | _ => simp [isStr] at hk
            cases r1
            refine iteF ?_
            refine ⟨_, rfl, Sum.inr kind, rfl, rfl, _, rfl, ?_⟩
            rw [hin kind]
            have k' : ∀ H', Same H H' → Q (.bl (decide (kind ∈ words8) && (nameD d2 && (wholeD 0 9999 d3 && fitD kind ds)))) H' := k
            by_cases hw : kind ∈ words8
            · rw [decide_eq_true hw]
              refine iteF ?_
              rw [decide_eq_true hw, Bool.true_and] at k'
              refine ⟨_, rfl, m, x2, d2, rfl, r2.same s1, fun H2 s2 => ⟨_, rfl, ?_⟩⟩
              have s12 := s1.trans s2
              cases g : nameD d2 with
              | false =>
                refine iteT ?_
                have q := k' H2 s12
                rw [g] at q
                exact q
              | true =>
                refine iteF ?_
                refine ⟨_, rfl, m, x3, d3, 0, 9999, rfl, rr3.same s12, _, rfl, ?_⟩
                cases g2 : wholeD 0 9999 d3 with
                | false =>
                  refine iteT ?_
                  have q := k' H2 s12
                  rw [g, g2] at q
                  exact q
                | true =>
                  refine iteF ?_
                  have hs := hin kind
                  rw [decide_eq_true hw] at hs
                  obtain ⟨v, hv⟩ := Option.isSome_iff_exists.mp hs
                  obtain ⟨fa, fda, rfl, FG, fk, fb⟩ := hfn kind v hv
                  refine ⟨_, rfl, Sum.inr kind, _, rfl, hv, ?_⟩
                  refine ⟨_, rfl, fa, spFits (fitD kind), rfl, ⟨fda, FG, fk, fb⟩, ?_⟩
                  refine ⟨_, rfl, _, rfl, a, _, rfl, s12 _ _ e, fun t2 H3 s3 ht2 => ?_⟩
                  have ed : cutV (V.str kind :: x2 :: x3 :: xs') (some 3) none = xs' := cut_from (α := Nat) (V.str kind :: x2 :: x3 :: xs') 3
                  rw [ed] at ht2
                  refine ⟨m, _, ds, rfl, .tup ht2 (by simp only [List.length_cons] at hl; first | lia | omega) ((rr.same s12).same s3), fun H4 s4 => ?_⟩
                  have q := k' H4 ((s12.trans s3).trans s4)
                  rw [g, g2, Bool.true_and, Bool.true_and] at q
                  exact q
            · rw [decide_eq_false hw]
              refine iteT ?_
              have q := k' H1 s1
              rw [decide_eq_false hw] at q
              exact q
end
end K3

set_option linter.all false
set_option maxRecDepth 100000
set_option Elab.async false
set_option maxHeartbeats 8000000
namespace K3
open PySem L2
inductive I_spFieldOf (vs : List V) (H : Hp) (Q : VK) (u3_ : XK) : Prop
  | mk (t : Addr) (word : Str) (x1 x2 x3 : V) (rest : List V) (q0 : vs = [.ref t]) (q1 : H t = some (.tup (.str word :: x1 :: x2 :: x3 :: rest))) (q2 : ∀ H', Same H H' → Q (if inV (.str word) [V.str "measure", .str "breach", .str "view"] = true then x3 else .non) H') : I_spFieldOf vs H Q u3_
noncomputable def spFieldOf : Sp := fun vs H Q u3_ => I_spFieldOf vs H Q u3_
section
variable {P : Program} {w : World} {K : PySem.W.Frag} {mg : Str → Option Value} {base : Heap}
theorem scFieldOf : FnScope ["row"] ["row"] (defScope sFieldOf) := ⟨rfl, rfl, rfl, by decide +kernel, rfl, by decide +kernel, by decide +kernel⟩
theorem ok_fieldOf {f : Addr} {fd : FuncData} (F : Fun K "field_of" "field_of" sFieldOf f fd) : FnOk P w K mg base CX0 1 f fd ["row"] spFieldOf := by
  refine F.ok scFieldOf (fun vs H Q E h => ?_) (fun cdv A outer s H vs Q E hr h => ?_)
  · obtain ⟨t, word, x1, x2, x3, rest, rfl, _⟩ := h
    rfl
  · obtain ⟨t, word, x1, x2, x3, rest, rfl, ht, k⟩ := h
    refine ⟨_, pss_cons (ps_if (pt_cmpR op_in_seq (pe_ix ix_tup (pv 0) pe_int (fun _ _ => rfl)) (pe_tup (pa_c pe_str (pa_c pe_str (pa_c pe_str pa_nil)))) (by with_unfolding_all rfl)) (pss_one (ps_ret (pe_ix ix_tup (pv 0) pe_int (fun _ _ => rfl)))) pss_nil)
      (pss_one (ps_ret pe_non)), ?_⟩
    have hl : (V.str word :: x1 :: x2 :: x3 :: rest).length = rest.length + 4 := rfl
    have a0 : atI (V.str word :: x1 :: x2 :: x3 :: rest) 0 = some (.str word) := atI_nat (j := 0) rfl
    have a3 : atI (V.str word :: x1 :: x2 :: x3 :: rest) 3 = some x3 := atI_nat (j := 3) rfl
    refine ⟨_, rfl, t, _, 0, _, rfl, rfl, SqT.of ht, a0, sizeLine_big (by show 3 ≤ 1000000; decide), fun q hq => ?_⟩
    have sq := Same.new (o := .tup [V.str "measure", .str "breach", .str "view"]) hq
    refine ⟨q, _, rfl, .inr (SqT.of upd_same), rfl, rfl, _, rfl, ?_⟩
    have k1 := k _ sq
    rw [if_neg Bool.false_ne_true]
    refine ite2 (fun g => ?_) (fun g => ?_)
    · rw [if_pos g] at k1
      exact ⟨_, rfl, t, _, 3, _, rfl, rfl, SqT.of (sq _ _ ht), a3, k1⟩
    · rw [if_neg g] at k1
      exact k1
end
end K3

set_option linter.all false
set_option maxRecDepth 100000
set_option Elab.async false
set_option maxHeartbeats 8000000
namespace K3
open PySem L2
noncomputable def isLst : PyData → Bool | .list _ => true | _ => false
noncomputable def isSeq : PyData → Bool | .list _ => true | .tuple _ => true | _ => false
theorem kit_lst {K : PySem.W.Frag} (d : PyData) : PySem.W.kitOne K (.type (tyN d)) (.type "list") = some (isLst d) := by
  cases d <;> dsimp only [tyN, isLst] <;> first | exact kit_same | exact kit_of (by decide) (by decide +kernel) (by decide +kernel)
theorem kit_seq {K : PySem.W.Frag} (d : PyData) : PySem.W.kitAny K (.type (tyN d)) [.type "list", .type "tuple"] = some (isSeq d) := by
  simp only [PySem.W.kitAny, kit_lst, kit_tup]
  cases d <;> rfl
noncomputable def tupD : Nat → PyData → PyData
  | 0, d => d
  | n + 1, .list ds => .tuple (ds.map (tupD n))
  | n + 1, .tuple ds => .tuple (ds.map (tupD n))
  | _ + 1, d => d
inductive I_spAs (n : Nat) (vs : List V) (H : Hp) (Q : VK) (u3_ : XK) : Prop
  | mk (m : Bool) (x : V) (d : PyData) (q0 : vs = [x, .int n]) (q1 : RdV m H x d) (q2 : ∀ y H', Same H H' → RdV m H' y (tupD n d) → Q y H') : I_spAs n vs H Q u3_
noncomputable def spAs (n : Nat) : Sp := fun vs H Q u3_ => I_spAs n vs H Q u3_
section
variable {P : Program} {w : World} {K : PySem.W.Frag} {mg : Str → Option Value} {base : Heap}
theorem fn_never {f : Addr} {fd : FuncData} {k : Nat} {ps : List Str} : FnOk P w K mg base CX0 k f fd ps (fun _ _ _ _ => False) := by
  constructor
  · intro _ _ _ _ h; exact h.elim
  · intros; contradiction
theorem scAs : FnScope ["thing", "deep"] ["thing", "deep"] (defScope sAsTup) := ⟨rfl, rfl, rfl, by decide +kernel, rfl, by decide +kernel, by decide +kernel⟩
theorem ok_as0 {f : Addr} {fd : FuncData} (F : Fun K "as_tuples" "as_tuples" sAsTup f fd) (T : Txt K mg) (hlist : mg "list" = none) (mA : mg "as_tuples" = some (.ref f)) (kA : PySem.W.keepIn K (.ref f) = true) (bA : Binds K fd ["thing", "deep"] []) :
    FnOk P w K mg base CX0 1 f fd ["thing", "deep"] (spAs 0) := by
  refine F.ok scAs (fun vs H Q E h => ?_) (fun cdv A outer s H vs Q E hr h => ?_)
  · obtain ⟨m, x, d, rfl, _⟩ := h
    rfl
  · obtain ⟨m, x, d, rfl, hx, k⟩ := h
    have G : FnOk P w K mg base CX0 0 f fd ["thing", "deep"] (fun _ _ _ _ => False) := fn_never
    refine ⟨_, pss_cons (ps_if (PW.pt (pw_or (pt_cmpR op_eq (pv 1) pe_int (nomark _)) (pw_or1 (pt_not (pt_val (pe_callB call_isinstT (by rfl) T.isi (by kernel_rfl) (pa_c (pv 0) (pa_c (pe_tup (pa_c (pe_bltn (v := .ty "list") (by rfl) hlist (by kernel_rfl) rfl) (pa_c (pe_bltn (v := .ty "tuple") (by rfl) T.tuple (by kernel_rfl) rfl) pa_nil))) pa_nil)))))))) (pss_one (ps_ret (pv 0))) pss_nil)
      (pss_one (ps_ret (pe_callTy call_tuple_of (by rfl) T.tuple (by kernel_rfl) (pa_c (pe_comp (N := ["inner", "deep"]) (src := [none, some 1]) (osc := defScope sAsTup) (oN := ["thing", "deep"]) ⟨by rfl, by decide +kernel, by decide +kernel, by decide +kernel, rfl, by rfl⟩ (pi_tup (pv 0))
          fun cl s H fp pins C => ⟨pg_name (i := 0) (show (["inner", "deep"] : List Str).Nodup by decide +kernel) rfl (Or.inl rfl), pts_nil, pe_call G hr rfl mA kA bA .nil pass0 (pa_c (pv 0) (pa_c (pe_op op_sub (pv 1) pe_int) pa_nil))⟩) pa_nil)))), ?_⟩
    refine ⟨_, rfl, rfl, _, rfl, ?_⟩
    rw [decide_eq_true (show V.int ((0 : Nat) : Int) = V.int 0 from rfl)]
    refine iteT ?_
    exact ⟨_, rfl, k _ _ (Same.refl H) hx⟩
theorem ok_asS {f : Addr} {fd : FuncData} (F : Fun K "as_tuples" "as_tuples" sAsTup f fd) (T : Txt K mg) (hlist : mg "list" = none) (mA : mg "as_tuples" = some (.ref f)) (kA : PySem.W.keepIn K (.ref f) = true) (bA : Binds K fd ["thing", "deep"] []) {n : Nat}
    (G : FnOk P w K mg base CX0 (n + 1) f fd ["thing", "deep"] (spAs n)) : FnOk P w K mg base CX0 (n + 2) f fd ["thing", "deep"] (spAs (n + 1)) := by
  refine F.ok scAs (fun vs H Q E h => ?_) (fun cdv A outer s H vs Q E hr h => ?_)
  · obtain ⟨m, x, d, rfl, _⟩ := h
    rfl
  · obtain ⟨m, x, d, rfl, hx, k⟩ := h
    by_cases hs : isSeq d = true
    · cases d with
      | list ds =>
        cases hx with
        | @lst a xs _ hm e hl r =>
          have hlen := r.len
          refine ⟨_, pss_cons (ps_if (PW.pt (pw_or (pt_cmpR op_eq (pv 1) pe_int (nomark _)) (pw_or1 (pt_not (pt_val (pe_callB call_isinstT (by rfl) T.isi (by kernel_rfl) (pa_c (pv 0) (pa_c (pe_tup (pa_c (pe_bltn (v := .ty "list") (by rfl) hlist (by kernel_rfl) rfl) (pa_c (pe_bltn (v := .ty "tuple") (by rfl) T.tuple (by kernel_rfl) rfl) pa_nil))) pa_nil)))))))) (pss_one (ps_ret (pv 0))) pss_nil)
        (pss_one (ps_ret (pe_callTy call_tuple_of (by rfl) T.tuple (by kernel_rfl) (pa_c (pe_comp (N := ["inner", "deep"]) (src := [none, some 1]) (osc := defScope sAsTup) (oN := ["thing", "deep"]) ⟨by rfl, by decide +kernel, by decide +kernel, by decide +kernel, rfl, by rfl⟩ (pi_list (pv 0))
            fun cl s H fp pins C => ⟨pg_name (i := 0) (show (["inner", "deep"] : List Str).Nodup by decide +kernel) rfl (Or.inl rfl), pts_nil, pe_call G hr rfl mA kA bA .nil pass0 (pa_c (pv 0) (pa_c (pe_op op_sub (pv 1) pe_int) pa_nil))⟩) pa_nil)))), ?_⟩
          refine ⟨_, rfl, rfl, _, rfl, ?_⟩
          rw [decide_eq_false (show ¬ V.int ((n + 1 : Nat) : Int) = V.int 0 from fun z => by injection z with z; first | lia | omega)]
          refine iteF ?_
          refine ⟨_, rfl, sizeLine_big (by show 2 ≤ 1000000; decide), fun q hq => ?_⟩
          have sq := Same.new (o := .tup [V.ty "list", .ty "tuple"]) hq
          refine ⟨_, q, "list", "tuple", _, _, rfl, upd_same, TyOf.lst (sq _ _ e), kit_seq (.list ds), _, rfl, ?_⟩
          refine iteF ?_
          generalize upd H q (.tup [V.ty "list", .ty "tuple"]) = H1 at sq ⊢
          refine ⟨_, rfl, a, rfl, ⟨xs, SqL.of (sq _ _ e)⟩, ?_⟩
          refine comp_list (xs := xs) (fun i ys σ H' => Same H H' ∧ RdVs m H' ys ((ds.take i).map (tupD n)) ∧ ∃ o, σ = [o, some (.int ((n + 1 : Nat) : Int))]) ⟨sq, by rw [List.take_zero]; exact .nil, none, rfl⟩ (sizeLine_big (by first | lia | omega)) (fun i ys σ H' p => by have := p.2.1.len; rw [List.length_map, List.length_take] at this; first | lia | omega) (fun i ys σ H' p => SqL.of (p.1 _ _ e)) ?_ ?_
          · rintro i y ys σ H' hy ⟨S, rd, o, rfl⟩
            dsimp only [gName]
            obtain ⟨d', hd', r'⟩ := r.at hy
            refine iteT ?_
            refine ⟨_, rfl, _, rfl, _, _, rfl, rfl, m, y, d', (by show [y, V.int (((n + 1 : Nat) : Int) - 1)] ++ [] = _; rw [show (((n + 1 : Nat) : Int) - 1) = (n : Int) by first | lia | omega]; rfl), r'.same S, fun y2 H2 s2 r2 => ⟨S.trans s2, ?_, _, rfl⟩⟩
            rw [List.take_add_one, hd', List.map_append]
            exact RdVs.app (rd.same s2) (.cons r2 .nil)
          · rintro ys σ H2 ⟨S, rd, o, rfl⟩ D hD
            have etk : List.take xs.length ds = ds := List.take_of_length_le (by first | lia | omega)
            rw [etk] at rd
            have sD := Same.new (o := .lst ys) hD
            refine ⟨D, ys, rfl, .inl ⟨SqL.of upd_same, fun t ht => ?_⟩⟩
            have sT := Same.new (o := .tup ys) ht
            have hyl := rd.len
            rw [List.length_map] at hyl
            exact k _ _ ((S.trans sD).trans sT) (.tup upd_same (by first | lia | omega) ((rd.same sD).same sT))
      | tuple ds =>
        cases hx with
        | @tup a xs _ e hl r =>
          have hlen := r.len
          refine ⟨_, pss_cons (ps_if (PW.pt (pw_or (pt_cmpR op_eq (pv 1) pe_int (nomark _)) (pw_or1 (pt_not (pt_val (pe_callB call_isinstT (by rfl) T.isi (by kernel_rfl) (pa_c (pv 0) (pa_c (pe_tup (pa_c (pe_bltn (v := .ty "list") (by rfl) hlist (by kernel_rfl) rfl) (pa_c (pe_bltn (v := .ty "tuple") (by rfl) T.tuple (by kernel_rfl) rfl) pa_nil))) pa_nil)))))))) (pss_one (ps_ret (pv 0))) pss_nil)
        (pss_one (ps_ret (pe_callTy call_tuple_of (by rfl) T.tuple (by kernel_rfl) (pa_c (pe_comp (N := ["inner", "deep"]) (src := [none, some 1]) (osc := defScope sAsTup) (oN := ["thing", "deep"]) ⟨by rfl, by decide +kernel, by decide +kernel, by decide +kernel, rfl, by rfl⟩ (pi_tup (pv 0))
            fun cl s H fp pins C => ⟨pg_name (i := 0) (show (["inner", "deep"] : List Str).Nodup by decide +kernel) rfl (Or.inl rfl), pts_nil, pe_call G hr rfl mA kA bA .nil pass0 (pa_c (pv 0) (pa_c (pe_op op_sub (pv 1) pe_int) pa_nil))⟩) pa_nil)))), ?_⟩
          refine ⟨_, rfl, rfl, _, rfl, ?_⟩
          rw [decide_eq_false (show ¬ V.int ((n + 1 : Nat) : Int) = V.int 0 from fun z => by injection z with z; first | lia | omega)]
          refine iteF ?_
          refine ⟨_, rfl, sizeLine_big (by show 2 ≤ 1000000; decide), fun q hq => ?_⟩
          have sq := Same.new (o := .tup [V.ty "list", .ty "tuple"]) hq
          refine ⟨_, q, "list", "tuple", _, _, rfl, upd_same, TyOf.tup (sq _ _ e), kit_seq (.tuple ds), _, rfl, ?_⟩
          refine iteF ?_
          generalize upd H q (.tup [V.ty "list", .ty "tuple"]) = H1 at sq ⊢
          refine ⟨_, rfl, a, rfl, ⟨xs, SqT.of (sq _ _ e)⟩, ?_⟩
          refine comp_tup (xs := xs) (fun i ys σ H' => Same H H' ∧ RdVs m H' ys ((ds.take i).map (tupD n)) ∧ ∃ o, σ = [o, some (.int ((n + 1 : Nat) : Int))]) ⟨sq, by rw [List.take_zero]; exact .nil, none, rfl⟩ (sizeLine_big (by first | lia | omega)) (fun i ys σ H' p => by have := p.2.1.len; rw [List.length_map, List.length_take] at this; first | lia | omega) (fun i ys σ H' p => SqT.of (p.1 _ _ e)) ?_ ?_
          · rintro i y ys σ H' hy ⟨S, rd, o, rfl⟩
            dsimp only [gName]
            obtain ⟨d', hd', r'⟩ := r.at hy
            refine iteT ?_
            refine ⟨_, rfl, _, rfl, _, _, rfl, rfl, m, y, d', (by show [y, V.int (((n + 1 : Nat) : Int) - 1)] ++ [] = _; rw [show (((n + 1 : Nat) : Int) - 1) = (n : Int) by first | lia | omega]; rfl), r'.same S, fun y2 H2 s2 r2 => ⟨S.trans s2, ?_, _, rfl⟩⟩
            rw [List.take_add_one, hd', List.map_append]
            exact RdVs.app (rd.same s2) (.cons r2 .nil)
          · rintro ys σ H2 ⟨S, rd, o, rfl⟩ D hD
            have etk : List.take xs.length ds = ds := List.take_of_length_le (by first | lia | omega)
            rw [etk] at rd
            have sD := Same.new (o := .lst ys) hD
            refine ⟨D, ys, rfl, .inl ⟨SqL.of upd_same, fun t ht => ?_⟩⟩
            have sT := Same.new (o := .tup ys) ht
            have hyl := rd.len
            rw [List.length_map] at hyl
            exact k _ _ ((S.trans sD).trans sT) (.tup upd_same (by first | lia | omega) ((rd.same sD).same sT))
      | _ => simp [isSeq] at hs
    · have hs' : isSeq d = false := by simpa using hs
      have et : tupD (n + 1) d = d := by
        cases d with
        | list ds => simp [isSeq] at hs'
        | tuple ds => simp [isSeq] at hs'
        | _ => rfl
      rw [et] at k
      refine ⟨_, pss_cons (ps_if (PW.pt (pw_or (pt_cmpR op_eq (pv 1) pe_int (nomark _)) (pw_or1 (pt_not (pt_val (pe_callB call_isinstT (by rfl) T.isi (by kernel_rfl) (pa_c (pv 0) (pa_c (pe_tup (pa_c (pe_bltn (v := .ty "list") (by rfl) hlist (by kernel_rfl) rfl) (pa_c (pe_bltn (v := .ty "tuple") (by rfl) T.tuple (by kernel_rfl) rfl) pa_nil))) pa_nil)))))))) (pss_one (ps_ret (pv 0))) pss_nil)
      (pss_one (ps_ret (pe_callTy call_tuple_of (by rfl) T.tuple (by kernel_rfl) (pa_c (pe_comp (N := ["inner", "deep"]) (src := [none, some 1]) (osc := defScope sAsTup) (oN := ["thing", "deep"]) ⟨by rfl, by decide +kernel, by decide +kernel, by decide +kernel, rfl, by rfl⟩ (pi_tup (pv 0))
          fun cl s H fp pins C => ⟨pg_name (i := 0) (show (["inner", "deep"] : List Str).Nodup by decide +kernel) rfl (Or.inl rfl), pts_nil, pe_call G hr rfl mA kA bA .nil pass0 (pa_c (pv 0) (pa_c (pe_op op_sub (pv 1) pe_int) pa_nil))⟩) pa_nil)))), ?_⟩
      refine ⟨_, rfl, rfl, _, rfl, ?_⟩
      rw [decide_eq_false (show ¬ V.int ((n + 1 : Nat) : Int) = V.int 0 from fun z => by injection z with z; first | lia | omega)]
      refine iteF ?_
      refine ⟨_, rfl, sizeLine_big (by show 2 ≤ 1000000; decide), fun q hq => ?_⟩
      have sq := Same.new (o := .tup [V.ty "list", .ty "tuple"]) hq
      refine ⟨_, q, "list", "tuple", _, _, rfl, upd_same, ty_of (hx.same sq), kit_seq d, _, rfl, ?_⟩
      rw [hs']
      refine iteT ?_
      exact ⟨_, rfl, k _ _ sq (hx.same sq)⟩
end
end K3

set_option linter.all false
set_option maxRecDepth 100000
set_option Elab.async false
set_option maxHeartbeats 8000000
namespace K3
open PySem L2
theorem pen_ne {H : Hp} {p c a : Addr} {ns : List Int} {t : Int} {o : HO} (hp : PenAt H p c ns t) (e : H a = some o) (h : ∀ kv r, o ≠ .dK (kv :: r)) : a ≠ p := by
  obtain ⟨l, _, e2⟩ := hp.ob
  exact ne_of e e2 (h _ _)
theorem rd_but {m : Bool} {H H' : Hp} {p c : Addr} {ns : List Int} {t : Int} {x : V} {d : PyData} (r : RdV m H x d) (hp : PenAt H p c ns t) (k : KeepBut p H H') : RdV m H' x d := r.keep fun a o e h => k a o e (pen_ne hp e h)
theorem rds_but {m : Bool} {H H' : Hp} {p c : Addr} {ns : List Int} {t : Int} {x : List V} {d : List PyData} (r : RdVs m H x d) (hp : PenAt H p c ns t) (k : KeepBut p H H') : RdVs m H' x d := r.keep fun a o e h => k a o e (pen_ne hp e h)
theorem lst_but {H H' : Hp} {p c a : Addr} {ns : List Int} {t : Int} {xs : List V} (e : H a = some (.lst xs)) (hp : PenAt H p c ns t) (k : KeepBut p H H') : H' a = some (.lst xs) := k a _ e (pen_ne hp e (fun _ _ z => nomatch z))
theorem tup_but {H H' : Hp} {p c a : Addr} {ns : List Int} {t : Int} {xs : List V} (e : H a = some (.tup xs)) (hp : PenAt H p c ns t) (k : KeepBut p H H') : H' a = some (.tup xs) := k a _ e (pen_ne hp e (fun _ _ z => nomatch z))
inductive I_spNum (vs : List V) (H : Hp) (Q : VK) (u3_ : XK) : Prop
  | mk (p c : Addr) (ns : List Int) (a lo hi : Int) (q0 : vs = [.ref p, .int lo, .int hi]) (q1 : PenAt H p c ns a) (q2 : a ≤ 900000) (q3 : 0 ≤ lo) (q4 : lo ≤ hi) (q5 : hi ≤ 10 ^ 9) (q6 : ∀ n a' H', lo ≤ n → n ≤ hi → a ≤ a' → a' ≤ a + 3 → PenAt H' p c ns a' → KeepBut p H H' → Q (.int n) H') : I_spNum vs H Q u3_
noncomputable def spNum : Sp := fun vs H Q u3_ => I_spNum vs H Q u3_
section
variable {P : Program} {w : World} {K : PySem.W.Frag} {mg : Str → Option Value} {base : Heap}
theorem scNum : FnScope ["_law_pen_here", "_law_bottom", "_law_most", "_law_way", "_law_near"] ["_law_pen_here", "_law_bottom", "_law_most"] (defScope sNumber) := ⟨rfl, rfl, rfl, by decide +kernel, rfl, by decide +kernel, by decide +kernel⟩
theorem ok_num {f fT : Addr} {fd fdT : FuncData} (F : Fun K "_law_number" "_law_number" sNumber f fd) (hmin : mg "min" = none) (GT : FnOk P w K mg base CX0 1 fT fdT ["_law_pen_here", "_law_many"] spTake) (mT : mg "_law_take" = some (.ref fT)) (kT : PySem.W.keepIn K (.ref fT) = true) (bT : Binds K fdT ["_law_pen_here", "_law_many"] []) :
    FnOk P w K mg base CX0 2 f fd ["_law_pen_here", "_law_bottom", "_law_most"] spNum := by
  refine F.ok scNum (fun vs H Q E h => ?_) (fun cdv A outer s H vs Q E hr h => ?_)
  · obtain ⟨p, c, ns, a, lo, hi, rfl, _⟩ := h
    rfl
  · obtain ⟨p, c, ns, a, lo, hi, rfl, hp, ha, h0, h1, h2, k⟩ := h
    refine ⟨_, pss_cons (ps_set (i := 3) scNum.nd rfl (Or.inl rfl) (pe_call GT hr rfl mT kT bT .nil pass0 (pa_c (pv 0) (pa_c pe_int pa_nil))))
      (pss_cons (ps_set (i := 4) scNum.nd rfl (Or.inl rfl) (pe_op op_add (pv 1) (pe_call GT hr rfl mT kT bT .nil pass0 (pa_c (pv 0) (pa_c (pe_callB (call_min2 rfl) (by rfl) hmin (by kernel_rfl) (pa_c pe_int (pa_c (pe_op op_add (pe_op op_sub (pv 2) (pv 1)) pe_int) pa_nil))) pa_nil)))))
      (pss_one (ps_ret (pe_ix ix_list (pe_lst (pa_c (pv 1) (pa_c (pv 2) (pa_c (pv 4) (pa_c (pe_op op_add (pv 1) (pe_call GT hr rfl mT kT bT .nil pass0 (pa_c (pv 0) (pa_c (pe_op op_add (pe_op op_sub (pv 2) (pv 1)) pe_int) pa_nil)))) pa_nil))))) (pv 3) (fun _ _ => rfl))))), ?_⟩
    have b9 : (10 : Int) ^ 9 + 1 < 2 ^ 512 := by decide +kernel
    have e9 : (10 : Int) ^ 9 = 1000000000 := by decide +kernel
    refine ⟨_, rfl, p, c, ns, a, _, rfl, hp, by first | lia | omega, by decide, by decide +kernel, fun r1 a1 H1 r10 r11 l1 u1 hp1 kp1 => ?_⟩
    refine ⟨_, rfl, _, rfl, _, rfl, _, rfl, _, _, rfl, rfl, _, _, rfl, rfl, _, _, rfl, ?_⟩
    obtain ⟨mm, hmm, m0, m1⟩ : ∃ mm : Int, (if hi - lo + 1 < 12 then hi - lo + 1 else 12) = mm ∧ 0 < mm ∧ mm ≤ hi - lo + 1 := by
      refine ⟨_, rfl, ?_⟩
      split <;> first | lia | omega
    rw [hmm]
    refine ⟨p, c, ns, a1, _, rfl, hp1, by first | lia | omega, m0, by first | lia | omega, fun r2 a2 H2 r20 r21 l2 u2 hp2 kp2 => ?_⟩
    refine ⟨_, _, rfl, rfl, ?_⟩
    refine ⟨_, rfl, _, rfl, _, rfl, _, rfl, _, rfl, _, rfl, _, rfl, _, _, rfl, rfl, _, _, rfl, rfl, p, c, ns, a2, _, rfl, hp2, by first | lia | omega, by first | lia | omega, by first | lia | omega, fun r3 a3 H3 r30 r31 l3 u3 hp3 kp3 => ?_⟩
    refine ⟨_, _, rfl, rfl, sizeLine_big (by show 4 ≤ 1000000; decide), fun q hq => ?_⟩
    have sq := Same.new (o := .lst [V.int lo, .int hi, .int (lo + r2), .int (lo + r3)]) hq
    obtain ⟨v, hv, hat⟩ := atI_in (xs := [V.int lo, .int hi, .int (lo + r2), .int (lo + r3)]) (i := r1) r10 (by show r1 < 4; first | lia | omega)
    obtain ⟨n, rfl, hn0, hn1⟩ : ∃ n : Int, v = .int n ∧ lo ≤ n ∧ n ≤ hi := by
      simp only [List.mem_cons, List.not_mem_nil, or_false] at hv
      rcases hv with rfl | rfl | rfl | rfl
      · exact ⟨_, rfl, by first | lia | omega, by first | lia | omega⟩
      · exact ⟨_, rfl, by first | lia | omega, by first | lia | omega⟩
      · exact ⟨_, rfl, by first | lia | omega, by first | lia | omega⟩
      · exact ⟨_, rfl, by first | lia | omega, by first | lia | omega⟩
    refine ⟨_, rfl, q, _, r1, _, rfl, rfl, SqL.of upd_same, hat, ?_⟩
    exact k n a3 _ hn0 hn1 (by first | lia | omega) (by first | lia | omega) (hp3.same sq) (((kp1.trans kp2).trans kp3).same sq)
end
end K3

set_option linter.all false
set_option maxRecDepth 100000
set_option Elab.async false
set_option maxHeartbeats 8000000
namespace K3
open PySem L2 PyProof.Rows
theorem erase_perm {α : Type} : ∀ (l : List α) (j : Nat) (y : α), l[j]? = some y → (y :: l.eraseIdx j).Perm l
  | [], j, y, h => by simp at h
  | x :: r, 0, y, h => by
    simp at h
    subst h
    simp
  | x :: r, j + 1, y, h => by
    simp at h
    have ih := erase_perm r j y h
    rw [List.eraseIdx_cons_succ]
    exact (List.Perm.swap x y _).trans (ih.cons x)
theorem erase_map {α β : Type} (f : α → β) : ∀ (l : List α) (j : Nat), (l.map f).eraseIdx j = (l.eraseIdx j).map f
  | [], j => by simp
  | x :: r, 0 => by simp
  | x :: r, j + 1 => by simp [erase_map f r j]
inductive I_spSorts (vs : List V) (H : Hp) (Q : VK) (u3_ : XK) : Prop
  | mk (p c : Addr) (ns : List Int) (a : Int) (nf nr : Nat) (q0 : vs = [.ref p, .int nf, .int nr]) (q1 : PenAt H p c ns a) (q2 : a ≤ 800000) (q3 : nf ≤ 44) (q4 : nr ≤ 44) (q5 : ∀ (t l1 l2 l3 l4 : Addr) (ws ps hs rs : List Str) (a' : Int) (H' : Hp), H' t = some (.tup [.ref l1, .ref l2, .ref l3, .ref l4]) → H' l1 = some (.lst (ws.map V.str)) → ws.length = nf → Nms ws → H' l2 = some (.lst (ps.map V.str)) → ps.length = 10 → Nms ps → H' l3 = some (.lst (hs.map V.str)) → hs.length = 5 → Nms hs → H' l4 = some (.lst (rs.map V.str)) → rs.length = nr → Nms rs → a ≤ a' → a' ≤ a + 200 → PenAt H' p c ns a' → KeepBut p H H' → Q (.ref t) H') : I_spSorts vs H Q u3_
noncomputable def spSorts : Sp := fun vs H Q u3_ => I_spSorts vs H Q u3_
inductive I_spDays (vs : List V) (H : Hp) (Q : VK) (u3_ : XK) : Prop
  | mk (p c : Addr) (ns : List Int) (a : Int) (m : Nat) (q0 : vs = [.ref p, .int m]) (q1 : PenAt H p c ns a) (q2 : a ≤ 800000) (q3 : m ≤ 44) (q4 : ∀ (l : Addr) (ds : List Int) (a' : Int) (H' : Hp), H' l = some (.lst (ds.map V.int)) → ds.length = m → (∀ d ∈ ds, 0 ≤ d ∧ d ≤ 9999) → a ≤ a' → a' ≤ a + 200 → PenAt H' p c ns a' → KeepBut p H H' → Q (.ref l) H') : I_spDays vs H Q u3_
noncomputable def spDays : Sp := fun vs H Q u3_ => I_spDays vs H Q u3_
inductive I_spSome (vs : List V) (H : Hp) (Q : VK) (u3_ : XK) : Prop
  | mk (p c : Addr) (ns : List Int) (a : Int) (l : Addr) (ws : List Str) (m : Nat) (q0 : vs = [.ref p, .ref l, .int m]) (q1 : PenAt H p c ns a) (q2 : a ≤ 800000) (q3 : H l = some (.lst (ws.map V.str))) (q4 : ws.length = 10) (q5 : m ≤ 6) (q6 : ∀ (q : Addr) (ms : List Str) (a' : Int) (H' : Hp), H' q = some (.lst (ms.map V.str)) → ms.length = m → sortedS ms = true → (∃ us vs : List Str, ms.Perm us ∧ (us ++ vs).Perm ws) → a ≤ a' → a' ≤ a + 10 → PenAt H' p c ns a' → KeepBut p H H' → Q (.ref q) H') : I_spSome vs H Q u3_
noncomputable def spSome : Sp := fun vs H Q u3_ => I_spSome vs H Q u3_
section
variable {P : Program} {w : World} {K : PySem.W.Frag} {mg : Str → Option Value} {base : Heap}
theorem scSorts : FnScope ["_law_pen_here", "_law_fields", "_law_rows", "_law_some_here", "_law_plots", "_law_houses"] ["_law_pen_here", "_law_fields", "_law_rows"] (defScope sSorts) := ⟨rfl, rfl, rfl, by decide +kernel, rfl, by decide +kernel, by decide +kernel⟩
theorem ok_sorts {f fT fN : Addr} {fd fdT fdN : FuncData} (F : Fun K "_law_sorts" "_law_sorts" sSorts f fd)
    (GT : FnOk P w K mg base CX0 1 fT fdT ["_law_pen_here", "_law_many"] spTake) (mT : mg "_law_take" = some (.ref fT)) (kT : PySem.W.keepIn K (.ref fT) = true) (bT : Binds K fdT ["_law_pen_here", "_law_many"] [])
    (GN : FnOk P w K mg base CX0 2 fN fdN ["_law_pen_here", "_law_many"] spNames) (mN : mg "_law_names" = some (.ref fN)) (kN : PySem.W.keepIn K (.ref fN) = true) (bN : Binds K fdN ["_law_pen_here", "_law_many"] []) :
    FnOk P w K mg base CX0 3 f fd ["_law_pen_here", "_law_fields", "_law_rows"] spSorts := by
  refine F.ok scSorts (fun vs H Q E h => ?_) (fun cdv A outer s H vs Q E hr h => ?_)
  · obtain ⟨p, c, ns, a, nf, nr, rfl, _⟩ := h
    rfl
  · obtain ⟨p, c, ns, a, nf, nr, rfl, hp, ha, hf, hrr, k⟩ := h
    have hr1 : Room 1 _ := hr.mono (by decide)
    refine ⟨_, pss_cons (ps_if (pt_cmpR op_eq (pe_call GT hr1 rfl mT kT bT .nil pass0 (pa_c (pv 0) (pa_c pe_int pa_nil))) pe_int (nomark _))
        (pss_cons (ps_set (i := 3) scSorts.nd rfl (Or.inl rfl) (pe_call GN hr rfl mN kN bN .nil pass0 (pa_c (pv 0) (pa_c pe_int pa_nil))))
        (pss_one (ps_ret (pe_tup (pa_c (pe_slice sl_list (pv 3) po_none (po_some (pv 1))) (pa_c (pe_slice sl_list (pv 3) po_none (po_some pe_int)) (pa_c (pe_slice sl_list (pv 3) po_none (po_some pe_int)) (pa_c (pe_slice sl_list (pv 3) po_none (po_some (pv 2))) pa_nil)))))))) pss_nil)
      (pss_cons (ps_set (i := 4) scSorts.nd rfl (Or.inl rfl) (pe_call GN hr rfl mN kN bN .nil pass0 (pa_c (pv 0) (pa_c pe_int pa_nil))))
      (pss_cons (ps_set (i := 5) scSorts.nd rfl (Or.inl rfl) (pe_call GN hr rfl mN kN bN .nil pass0 (pa_c (pv 0) (pa_c pe_int pa_nil))))
      (pss_one (ps_ret (pe_tup (pa_c (pe_call GN hr rfl mN kN bN .nil pass0 (pa_c (pv 0) (pa_c (pv 1) pa_nil))) (pa_c (pv 4) (pa_c (pv 5) (pa_c (pe_call GN hr rfl mN kN bN .nil pass0 (pa_c (pv 0) (pa_c (pv 2) pa_nil))) pa_nil))))))))), ?_⟩
    refine ⟨_, rfl, p, c, ns, a, _, rfl, hp, by first | lia | omega, by decide, by decide +kernel, fun r1 a1 H1 r10 r11 l1 u1 hp1 kp1 => ?_⟩
    refine ⟨rfl, _, rfl, ?_⟩
    have z4 : (4 : Nat) ≤ sizeLine := sizeLine_big (by decide)
    refine ite2 (fun g => ?_) (fun g => ?_)
    · refine ⟨_, rfl, p, c, ns, a1, 44, rfl, hp1, by first | lia | omega, by first | lia | omega, fun L ws a2 H2 nL hL hwl hN l2 u2 hp2 kp2 => ?_⟩
      have ec : ∀ n : Nat, cutV (ws.map V.str) none (some (n : Int)) = (ws.take n).map V.str := fun n => by rw [cut_to (α := Nat), List.map_take]
      have ec10 : cutV (ws.map V.str) none (some 10) = (ws.take 10).map V.str := ec 10
      have ec5 : cutV (ws.map V.str) none (some 5) = (ws.take 5).map V.str := ec 5
      refine ⟨_, rfl, _, rfl, _, rfl, L, _, rfl, SqL.of hL, fun q1 hq1 => ?_⟩
      rw [ec nf]
      have s1 := Same.new (o := .lst ((ws.take nf).map V.str)) hq1
      refine ⟨_, rfl, _, rfl, L, _, rfl, SqL.of (s1 _ _ hL), fun q2 hq2 => ?_⟩
      rw [ec10]
      have s2n := Same.new (o := .lst ((ws.take 10).map V.str)) hq2
      have s2 := s1.trans s2n
      refine ⟨_, rfl, _, rfl, L, _, rfl, SqL.of (s2 _ _ hL), fun q3 hq3 => ?_⟩
      rw [ec5]
      have s3n := Same.new (o := .lst ((ws.take 5).map V.str)) hq3
      have s3 := s2.trans s3n
      refine ⟨_, rfl, _, rfl, _, rfl, L, _, rfl, SqL.of (s3 _ _ hL), fun q4 hq4 => ?_⟩
      rw [ec nr]
      have s4n := Same.new (o := .lst ((ws.take nr).map V.str)) hq4
      have s4 := s3.trans s4n
      refine ⟨z4, fun t ht => ?_⟩
      have s5n := Same.new (o := .tup [V.ref q1, .ref q2, .ref q3, .ref q4]) ht
      have s5 := s4.trans s5n
      refine k t q1 q2 q3 q4 (ws.take nf) (ws.take 10) (ws.take 5) (ws.take nr) a2 _ upd_same (s5n _ _ (s4n _ _ (s3n _ _ (s2n _ _ upd_same)))) (by rw [List.length_take]; first | lia | omega) (hN.take nf) (s5n _ _ (s4n _ _ (s3n _ _ upd_same))) (by rw [List.length_take]; first | lia | omega) (hN.take 10) (s5n _ _ (s4n _ _ upd_same)) (by rw [List.length_take]; first | lia | omega) (hN.take 5) (s5n _ _ upd_same) (by rw [List.length_take]; first | lia | omega) (hN.take nr) (by first | lia | omega) (by first | lia | omega) (hp2.same s5) ((kp1.trans kp2).same s5)
    · refine ⟨_, rfl, p, c, ns, a1, 10, rfl, hp1, by first | lia | omega, by first | lia | omega, fun L1 ws1 a2 H2 nL1 hL1 hwl1 hN1 l2 u2 hp2 kp2 => ?_⟩
      refine ⟨_, rfl, p, c, ns, a2, 5, rfl, hp2, by first | lia | omega, by first | lia | omega, fun L2 ws2 a3 H3 nL2 hL2 hwl2 hN2 l3 u3 hp3 kp3 => ?_⟩
      refine ⟨_, rfl, _, rfl, p, c, ns, a3, nf, rfl, hp3, by first | lia | omega, by first | lia | omega, fun L3 ws3 a4 H4 nL3 hL3 hwl3 hN3 l4 u4 hp4 kp4 => ?_⟩
      refine ⟨_, rfl, _, rfl, _, rfl, _, rfl, p, c, ns, a4, nr, rfl, hp4, by first | lia | omega, by first | lia | omega, fun L4 ws4 a5 H5 nL4 hL4 hwl4 hN4 l5 u5 hp5 kp5 => ?_⟩
      refine ⟨z4, fun t ht => ?_⟩
      have s5n := Same.new (o := .tup [V.ref L3, .ref L1, .ref L2, .ref L4]) ht
      exact k t L3 L1 L2 L4 ws3 ws1 ws2 ws4 a5 _ upd_same (s5n _ _ (lst_but hL3 hp4 kp5)) hwl3 hN3 (s5n _ _ (lst_but (lst_but (lst_but hL1 hp2 kp3) hp3 kp4) hp4 kp5)) hwl1 hN1 (s5n _ _ (lst_but (lst_but hL2 hp3 kp4) hp4 kp5)) hwl2 hN2 (s5n _ _ hL4) hwl4 hN4 (by first | lia | omega) (by first | lia | omega) (hp5.same s5n) (((((kp1.trans kp2).trans kp3).trans kp4).trans kp5).same s5n)
theorem scSome : FnScope ["_law_pen_here", "_law_names_here", "_law_many", "_law_left", "_law_found"] ["_law_pen_here", "_law_names_here", "_law_many"] (defScope sSome) := ⟨rfl, rfl, rfl, by decide +kernel, rfl, by decide +kernel, by decide +kernel⟩
theorem ok_some {f fT : Addr} {fd fdT : FuncData} (F : Fun K "_law_some" "_law_some" sSome f fd) (hlist : mg "list" = none) (hrng : mg "range" = none) (hsor : mg "sorted" = none) (hlen : mg "len" = none)
    (GT : FnOk P w K mg base CX0 1 fT fdT ["_law_pen_here", "_law_many"] spTake) (mT : mg "_law_take" = some (.ref fT)) (kT : PySem.W.keepIn K (.ref fT) = true) (bT : Binds K fdT ["_law_pen_here", "_law_many"] []) :
    FnOk P w K mg base CX0 2 f fd ["_law_pen_here", "_law_names_here", "_law_many"] spSome := by
  refine F.ok scSome (fun vs H Q E h => ?_) (fun cdv A outer s H vs Q E hr h => ?_)
  · obtain ⟨p, c, ns, a, l, ws, m, rfl, _⟩ := h
    rfl
  · obtain ⟨p, c, ns, a, l, ws, m, rfl, hp, ha, hl, hwl, hm, k⟩ := h
    refine ⟨_, pss_cons (ps_set (i := 3) scSome.nd rfl (Or.inr rfl) (pe_callTy call_list_of (by rfl) hlist (by kernel_rfl) (pa_c (pv 1) pa_nil)))
      (pss_cons (ps_setComp (i := 4) (N := ["_law_k", "_law_left", "_law_pen_here"]) (src := [none, some 3, some 0]) (osc := defScope sSome) (oN := ["_law_pen_here", "_law_names_here", "_law_many", "_law_left", "_law_found"]) ⟨by rfl, by decide +kernel, by decide +kernel, by decide +kernel, rfl, by rfl⟩ scSome.nd rfl
          (pi_range1 rfl hrng (pa_c (pv 2) pa_nil))
          fun cl s H fp pins C => ⟨pg_name (i := 0) (show (["_law_k", "_law_left", "_law_pen_here"] : List Str).Nodup by decide +kernel) rfl (Or.inl rfl), pts_nil, pe_bmK (K := K) PySem.F.plainAttrs_list PySem.F.slot_list_pop PySem.F.type_list_pop mt_popAt (pv 1) (pa_c (pe_call GT hr rfl mT kT bT .nil pass0 (pa_c (pv 2) (pa_c (pe_callB (r := r_call_len_seq K) call_len_seq (by rfl) hlen PySem.boot_len (pa_c (pv 1) pa_nil)) pa_nil))) pa_nil)⟩)
      (pss_one (ps_ret (pe_callB call_sortedS (by rfl) hsor (by kernel_rfl) (pa_c (pv 4) pa_nil))))), ?_⟩
    refine ⟨_, rfl, l, _, rfl, .inl (SqL.of hl), fun L hL => ?_⟩
    have s0 := Same.new (o := .lst (ws.map V.str)) hL
    have nLp : L ≠ p := by
      obtain ⟨z, _, e⟩ := hp.ob
      exact (ne_of_none e hL).symm
    have nLc : L ≠ c := (ne_of_none hp.ce hL).symm
    refine ⟨_, rfl, m, rfl, by first | lia | omega, by first | lia | omega, ?_⟩
    refine comp_range (fun i ys σ' H' => Ex4 fun (a' : Int) (us vs : List Str) (o : Option V) => All10 (σ' = [o, some (.ref L), some (.ref p)]) (PenAt H' p c ns a') (KeepBut p H H') (a ≤ a') (a' ≤ a + i) (ys = us.map V.str) (us.length = i) (H' L = some (.lst (vs.map V.str))) (vs.length + i = 10) ((us ++ vs).Perm ws))
      ⟨a, [], ws, none, rfl, hp.same s0, Same.but s0, by first | lia | omega, by first | lia | omega, rfl, rfl, upd_same, by first | lia | omega, List.Perm.refl _⟩ (sizeLine_big (by first | lia | omega)) (fun i ys σ H p => by obtain ⟨_, us, _, _, _, _, _, _, _, rfl, e, _⟩ := p; rw [List.length_map, e]; exact Nat.le_refl _) ?_ ?_
    · rintro i ys σ' H1 hi ⟨a1, us, vs, o, rfl, hp1, kp1, la1, ua1, rfl, hul, hL1, hvl, hpe⟩
      dsimp only [gName]
      refine iteT ?_
      refine ⟨_, rfl, .inl ⟨rfl, _, SqL.of hL1⟩, _, rfl, _, rfl, L, _, rfl, .inl (SqL.of hL1), p, c, ns, a1, _, rfl, hp1, by first | lia | omega, by rw [List.length_map]; first | lia | omega, by rw [List.length_map]; first | lia | omega, fun r1 a2 H2 r10 r11 la2 ua2 hp2 kp2 => ?_⟩
      rw [List.length_map] at r11
      obtain ⟨j, rfl⟩ : ∃ j : Nat, r1 = j := ⟨r1.toNat, by first | lia | omega⟩
      have hL2 := lst_but hL1 hp1 kp2
      obtain ⟨y, hy⟩ : ∃ y, vs[j]? = some y := ⟨_, List.getElem?_eq_getElem (by first | lia | omega)⟩
      have hsx : seqIndex? (j : Int) (vs.map V.str).length = some j := by
        rw [List.length_map]
        unfold seqIndex?
        simp
        first | lia | omega
      refine ⟨L, _, _, j, V.str y, rfl, rfl, hL2, by first | lia | omega, by first | lia | omega, hsx, by rw [List.getElem?_map, hy]; rfl, ?_⟩
      refine ⟨a2, us ++ [y], vs.eraseIdx j, _, rfl, ?_, ?_, by first | lia | omega, by first | lia | omega, by rw [List.map_append]; rfl, by rw [List.length_append, hul]; rfl, ?_, ?_, ?_⟩
      · obtain ⟨⟨z, hz, e⟩, ce, ge, sm⟩ := hp2
        exact ⟨⟨z, hz, by rw [upd_ne nLp.symm]; exact e⟩, by rw [upd_ne nLc.symm]; exact ce, ge, sm⟩
      · intro b o e ne
        rw [upd_ne (ne_of_none e hL)]
        exact (kp1.trans kp2) b o e ne
      · rw [upd_same]
        congr 2
        exact erase_map V.str vs j
      · rw [List.length_eraseIdx_of_lt (by first | lia | omega)]
        first | lia | omega
      · rw [List.append_assoc]
        exact (List.Perm.append_left us (erase_perm vs j y hy)).trans hpe
    · rintro ys σ' H1 ⟨a1, us, vs, o, rfl, hp1, kp1, la1, ua1, rfl, hul, hL1, hvl, hpe⟩ D hD
      have sD := Same.new (o := .lst (us.map V.str)) hD
      refine ⟨_, rfl, D, us, rfl, SqL.of upd_same, by first | lia | omega, fun q ms hq hpm hsm => ?_⟩
      have s2 := Same.new (o := .lst (ms.map V.str)) hq
      exact k q ms a1 _ upd_same (by rw [hpm.length_eq, hul]; first | lia | omega) hsm ⟨us, vs, hpm, hpe⟩ (by first | lia | omega) (by first | lia | omega) ((hp1.same sD).same s2) ((kp1.same sD).same s2)
end
end K3

set_option linter.all false
set_option maxRecDepth 100000
set_option Elab.async false
set_option maxHeartbeats 8000000
namespace K3
open PySem L2
section
variable {P : Program} {w : World} {K : PySem.W.Frag} {mg : Str → Option Value} {base : Heap}
theorem scDays : FnScope ["_law_pen_here", "_law_many", "_law_way", "_law_some_here", "_law_k", "_law_few", "_law_found"] ["_law_pen_here", "_law_many"] (defScope sDays) := ⟨rfl, rfl, rfl, by decide +kernel, rfl, by decide +kernel, by decide +kernel⟩
theorem ok_days {f fT : Addr} {fd fdT : FuncData} (F : Fun K "_law_days" "_law_days" sDays f fd) (hrng : mg "range" = none) (hlen : mg "len" = none) (hint : mg "int" = none)
    (GT : FnOk P w K mg base CX0 1 fT fdT ["_law_pen_here", "_law_many"] spTake) (mT : mg "_law_take" = some (.ref fT)) (kT : PySem.W.keepIn K (.ref fT) = true) (bT : Binds K fdT ["_law_pen_here", "_law_many"] []) :
    FnOk P w K mg base CX0 2 f fd ["_law_pen_here", "_law_many"] spDays := by
  refine F.ok scDays (fun vs H Q E h => ?_) (fun cdv A outer s H vs Q E hr h => ?_)
  · obtain ⟨p, c, ns, a, m, rfl, _⟩ := h
    rfl
  · obtain ⟨p, c, ns, a, m, rfl, hp, ha, hm, k⟩ := h
    refine ⟨_, pss_cons (ps_set (i := 2) scDays.nd rfl (Or.inl rfl) (pe_call GT hr rfl mT kT bT .nil pass0 (pa_c (pv 0) (pa_c pe_int pa_nil))))
      (pss_cons (ps_set (i := 3) scDays.nd rfl (Or.inr rfl) (pe_lst (pa_c pe_int (pa_c pe_int (pa_c pe_int (pa_c pe_int (pa_c (pe_call GT hr rfl mT kT bT .nil pass0 (pa_c (pv 0) (pa_c pe_int pa_nil))) (pa_c (pe_call GT hr rfl mT kT bT .nil pass0 (pa_c (pv 0) (pa_c pe_int pa_nil))) pa_nil))))))))
      (pss_cons (ps_setComp (i := 5) (N := ["_law_k", "_law_some_here", "_law_pen_here"]) (src := [none, some 3, some 0]) (osc := defScope sDays) (oN := ["_law_pen_here", "_law_many", "_law_way", "_law_some_here", "_law_k", "_law_few", "_law_found"]) ⟨by rfl, by decide +kernel, by decide +kernel, by decide +kernel, rfl, by rfl⟩ scDays.nd rfl
          (pi_range1 rfl hrng (pa_c (pe_op op_add pe_int (pe_call GT hr rfl mT kT bT .nil pass0 (pa_c (pv 0) (pa_c pe_int pa_nil)))) pa_nil))
          fun cl s H fp pins C => ⟨pg_name (i := 0) (show (["_law_k", "_law_some_here", "_law_pen_here"] : List Str).Nodup by decide +kernel) rfl (Or.inl rfl), pts_nil, pe_ix (r := rIxL K) ix_list (pv 1) (pe_call GT hr rfl mT kT bT .nil pass0 (pa_c (pv 2) (pa_c pe_int pa_nil))) (fun _ _ => rfl)⟩)
      (pss_cons (ps_set (i := 6) scDays.nd rfl (Or.inl rfl) (pe_lst pa_nil))
      (pss_cons (ps_for PassesOwn.never rfl (pi_range1 rfl hrng (pa_c (pv 1) pa_nil)) (pg_name (i := 4) scDays.nd rfl (Or.inl rfl))
        (pss_one (ps_expr (pe_bm PySem.F.plainAttrs_list PySem.F.slot_list_append PySem.F.type_list_append mt_append (pv 6) (pa_c (pe_ix ix_list (pe_lst (pa_c (pe_ix ix_list (pv 5) (pe_call GT hr rfl mT kT bT .nil pass0 (pa_c (pv 0) (pa_c (pe_callB call_len_seq (by rfl) hlen PySem.boot_len (pa_c (pv 5) pa_nil)) pa_nil))) (fun _ _ => rfl)) (pa_c (pe_call GT hr rfl mT kT bT .nil pass0 (pa_c (pv 0) (pa_c pe_int pa_nil))) pa_nil)))
            (pe_callTy call_int1 (by rfl) hint (by kernel_rfl) (pa_c (pe_cmpR op_eq (pv 2) pe_int (nomark _)) pa_nil)) (fun _ _ => rfl)) pa_nil)))))
      (pss_one (ps_ret (pv 6))))))), ?_⟩
    refine ⟨_, rfl, p, c, ns, a, _, rfl, hp, by first | lia | omega, by decide, by decide +kernel, fun wy a1 H1 w0 w1 la1 ua1 hp1 kp1 => ?_⟩
    refine ⟨_, rfl, p, c, ns, a1, _, rfl, hp1, by first | lia | omega, by decide, by decide +kernel, fun x1 a2 H2 x10 x11 la2 ua2 hp2 kp2 => ?_⟩
    refine ⟨_, rfl, p, c, ns, a2, _, rfl, hp2, by first | lia | omega, by decide, by decide +kernel, fun x2 a3 H3 x20 x21 la3 ua3 hp3 kp3 => ?_⟩
    refine ⟨sizeLine_big (by show 6 ≤ 1000000; decide), fun L hL => ?_⟩
    have sL := Same.new (o := .lst [V.int 0, .int 1, .int 9, .int 9999, .int x1, .int x2]) hL
    have hin : ∀ v ∈ [V.int 0, .int 1, .int 9, .int 9999, .int x1, .int x2], ∃ d : Int, v = .int d ∧ 0 ≤ d ∧ d ≤ 9999 := by
      intro v hv
      simp only [List.mem_cons, List.not_mem_nil, or_false] at hv
      rcases hv with rfl | rfl | rfl | rfl | rfl | rfl
      · exact ⟨_, rfl, by first | lia | omega, by first | lia | omega⟩
      · exact ⟨_, rfl, by first | lia | omega, by first | lia | omega⟩
      · exact ⟨_, rfl, by first | lia | omega, by first | lia | omega⟩
      · exact ⟨_, rfl, by first | lia | omega, by first | lia | omega⟩
      · exact ⟨_, rfl, by first | lia | omega, by first | lia | omega⟩
      · exact ⟨_, rfl, by first | lia | omega, by first | lia | omega⟩
    have hp4 := hp3.same sL
    have k4 : KeepBut p H _ := ((kp1.trans kp2).trans kp3).same sL
    have hL4 : upd H3 L (.lst [V.int 0, .int 1, .int 9, .int 9999, .int x1, .int x2]) L = _ := upd_same
    generalize upd H3 L (.lst [V.int 0, .int 1, .int 9, .int 9999, .int x1, .int x2]) = H4 at hp4 k4 hL4 ⊢
    refine ⟨_, rfl, p, c, ns, a3, _, rfl, hp4, by first | lia | omega, by decide, by decide +kernel, fun r1 a5 H5 r10 r11 la5 ua5 hp5 kp5 => ?_⟩
    refine ⟨_, _, rfl, rfl, _, rfl, by first | lia | omega, by first | lia | omega, ?_⟩
    have hL5 := lst_but hL4 hp4 kp5
    refine comp_range (fun i ys σ' H' => Ex3 fun (a' : Int) (ds : List Int) (o : Option V) => All9 (σ' = [o, some (.ref L), some (.ref p)]) (PenAt H' p c ns a') (KeepBut p H H') (a5 ≤ a') (a' ≤ a5 + i) (ys = ds.map V.int) (ds.length = i) ((∀ d ∈ ds, 0 ≤ d ∧ d ≤ 9999)) (H' L = some (.lst [V.int 0, .int 1, .int 9, .int 9999, .int x1, .int x2])))
      ⟨a5, [], none, rfl, hp5, k4.trans kp5, by first | lia | omega, by first | lia | omega, rfl, rfl, (fun d hd => by simp at hd), hL5⟩ (sizeLine_big (by first | lia | omega)) (fun i ys σ H p => by obtain ⟨_, ds, _, _, _, _, _, _, rfl, e, _⟩ := p; rw [List.length_map, e]; exact Nat.le_refl _) ?_ ?_
    · rintro i ys σ' H6 hi ⟨a6, ds, o, rfl, hp6, k6, la6, ua6, rfl, hdl, hds, hL6⟩
      dsimp only [gName]
      refine iteT ?_
      refine ⟨_, rfl, _, rfl, p, c, ns, a6, _, rfl, hp6, by first | lia | omega, by decide, by decide +kernel, fun r2 a7 H7 r20 r21 la7 ua7 hp7 kp7 => ?_⟩
      have hL7 := lst_but hL6 hp6 kp7
      obtain ⟨v, hv, hat⟩ := atI_in (xs := [V.int 0, .int 1, .int 9, .int 9999, .int x1, .int x2]) (i := r2) r20 (by show r2 < 6; first | lia | omega)
      obtain ⟨d, rfl, hd0, hd1⟩ := hin v hv
      refine ⟨L, _, r2, _, rfl, rfl, SqL.of hL7, hat, ?_⟩
      refine ⟨a7, ds ++ [d], _, rfl, hp7, k6.trans kp7, by first | lia | omega, by first | lia | omega, by rw [List.map_append]; rfl, by rw [List.length_append, hdl]; rfl, fun z hz => ?_, hL7⟩
      rcases List.mem_append.mp hz with y | y
      · exact hds z y
      · rw [List.mem_singleton.mp y]; exact ⟨hd0, hd1⟩
    · rintro ys σ' H6 ⟨a6, ds, o, rfl, hp6, k6, la6, ua6, rfl, hdl, hds, hL6⟩ D hD
      have sD := Same.new (o := .lst (ds.map V.int)) hD
      have hp7 := hp6.same sD
      have k7 := k6.same sD
      have hD7 : upd H6 D (.lst (ds.map V.int)) D = _ := upd_same
      generalize upd H6 D (.lst (ds.map V.int)) = H7 at hp7 k7 hD7 ⊢
      refine ⟨Nat.zero_le _, fun R hR => ?_⟩
      have sR := Same.new (o := .lst []) hR
      have nRp : R ≠ p := by
        obtain ⟨z, _, e⟩ := hp7.ob
        exact (ne_of_none e hR).symm
      have nRc : R ≠ c := (ne_of_none hp7.ce hR).symm
      have nDR : D ≠ R := ne_of_none hD7 hR
      have hHR : H R = none := by
        cases e : H R with
        | none => rfl
        | some x => exact absurd (k7 R x e nRp) (by rw [hR]; simp)
      refine ⟨_, rfl, m, rfl, by first | lia | omega, by first | lia | omega, for_range (n := (m : Int).toNat) (fun i σ H' => Ex3 fun (o4 : Option V) (a' : Int) (es : List Int) => All9 (σ = [some (.ref p), some (.int m), some (.int wy), some (.ref L), o4, some (.ref D), some (.ref R)]) (PenAt H' p c ns a') (a6 ≤ a') (a' ≤ a6 + 2 * i) (KeepBut p H H') (H' D = some (.lst (ds.map V.int))) (H' R = some (.lst (es.map V.int))) (es.length = i) (∀ d ∈ es, 0 ≤ d ∧ d ≤ 9999))
        ⟨_, a6, [], rfl, hp7.same sR, by first | lia | omega, by simp, k7.same sR, sR _ _ hD7, upd_same, rfl, fun d hd => by simp at hd⟩ ?_ ?_⟩
      · rintro i σ H8 hi ⟨o4, a8, es, rfl, hp8, la8, ua8, k8, hD8, hR8, hel, hes⟩
        dsimp only [gName]
        refine ⟨_, rfl, .inl ⟨rfl, _, SqL.of hR8⟩, _, rfl, _, rfl, _, rfl, D, _, rfl, .inl (SqL.of hD8), p, c, ns, a8, _, rfl, hp8, by first | lia | omega, by rw [List.length_map]; first | lia | omega, by rw [List.length_map]; first | lia | omega, fun r3 a9 H9 r30 r31 la9 ua9 hp9 kp9 => ?_⟩
        have hD9 := lst_but hD8 hp8 kp9
        have hR9 := lst_but hR8 hp8 kp9
        obtain ⟨v, hv, hat⟩ := atI_in (xs := ds.map V.int) (i := r3) r30 r31
        obtain ⟨d, hd, rfl⟩ := List.mem_map.mp hv
        refine ⟨D, _, r3, _, rfl, rfl, SqL.of hD9, hat, ?_⟩
        refine ⟨_, rfl, p, c, ns, a9, _, rfl, hp9, by first | lia | omega, by decide, by decide +kernel, fun r4 b1 G1 r40 r41 lb1 ub1 hpb kpb => ?_⟩
        refine ⟨sizeLine_big (by show 2 ≤ 1000000; decide), fun q hq => ?_⟩
        have sq := Same.new (o := .lst [V.int d, .int r4]) hq
        refine ⟨_, rfl, rfl, .inr ⟨_, rfl, ?_⟩⟩
        obtain ⟨z, hz, z0, z1⟩ : ∃ z : Int, (if decide (V.int wy = V.int 0) = true then (1 : Int) else 0) = z ∧ 0 ≤ z ∧ z ≤ 1 := by
          refine ⟨_, rfl, ?_⟩
          split <;> first | lia | omega
        rw [hz]
        obtain ⟨v, hv, hat⟩ := atI_in (xs := [V.int d, .int r4]) (i := z) z0 (by show z < 2; first | lia | omega)
        obtain ⟨dd, rfl, hdd⟩ : ∃ dd : Int, v = .int dd ∧ 0 ≤ dd ∧ dd ≤ 9999 := by
          simp only [List.mem_cons, List.not_mem_nil, or_false] at hv
          rcases hv with rfl | rfl
          · exact ⟨_, rfl, hds d hd⟩
          · exact ⟨_, rfl, by first | lia | omega, by first | lia | omega⟩
        refine ⟨q, _, z, _, rfl, rfl, SqL.of upd_same, hat, ?_⟩
        have hRq := sq _ _ (lst_but hR9 hp9 kpb)
        have hDq := sq _ _ (lst_but hD9 hp9 kpb)
        have hpq := hpb.same sq
        have kq := ((k8.trans kp9).trans kpb).same sq
        refine ⟨R, _, _, rfl, rfl, hRq, by rw [List.length_map]; exact small1000 (by first | lia | omega), ?_⟩
        refine ⟨_, b1, es ++ [dd], rfl, ?_, by first | lia | omega, by first | lia | omega, ?_, by rw [upd_ne nDR]; exact hDq, by rw [upd_same, List.map_append]; rfl, by rw [List.length_append, hel]; rfl, fun z hz => ?_⟩
        · obtain ⟨⟨z, hz, e⟩, ce, ge, sm⟩ := hpq
          exact ⟨⟨z, hz, by rw [upd_ne nRp.symm]; exact e⟩, by rw [upd_ne nRc.symm]; exact ce, ge, sm⟩
        · intro b o e ne
          rw [upd_ne (ne_of_none e hHR)]
          exact kq b o e ne
        · rcases List.mem_append.mp hz with y | y
          · exact hes z y
          · rw [List.mem_singleton.mp y]; exact hdd
      · rintro σ H8 ⟨o4, a8, es, rfl, hp8, la8, ua8, k8, hD8, hR8, hel, hes⟩
        exact ⟨_, rfl, k R es a8 H8 hR8 (by first | lia | omega) hes (by first | lia | omega) (by first | lia | omega) hp8 k8⟩
end
end K3

set_option linter.all false
set_option maxRecDepth 100000
set_option Elab.async false
set_option maxHeartbeats 8000000
namespace K3
open PySem L2 PyProof.Rows
theorem rising_iff {ss ms : List Str} (hp : ms.Perm (mets ss)) (hs : sortedS ms = true) : decide (ss = ms) = risingB ss := by
  unfold risingB
  rw [decide_eq_decide]
  have hms := sortedS_pair ms hs
  constructor
  · rintro rfl
    have hn : ss.Nodup := hp.nodup_iff.mpr (mets_nodup ss)
    have h2 := hms.and hn
    refine h2.imp fun {a b} h => ?_
    rcases Decidable.em (a.cps.toList < b.cps.toList) with z | z
    · exact z
    · exact absurd (cps_inj (List.le_antisymm (List.not_lt.mp h.1) (List.not_lt.mp z))) h.2
  · intro h
    have hn : ss.Nodup := h.imp fun {a b} z e => by
      subst e
      exact List.lt_irrefl _ z
    have h2 : ss.Pairwise fun a b => ¬ b.cps.toList < a.cps.toList := h.imp fun {a b} z y => List.lt_irrefl _ (List.lt_trans z y)
    have hpm : (mets ss).Perm ss := by
      refine perm_of_full ss (mets ss) hn (fun x hx => (mets_mem ss x).mpr hx) ?_
      have := perm_of_full (mets ss) ss (mets_nodup ss) (fun x hx => (mets_mem ss x).mp hx)
      have h1 := (set_count ss)
      rw [decide_eq_true hn] at h1
      have h3 := of_decide_eq_true h1
      unfold mets
      first | lia | omega
    exact sorted_uniq (hpm.symm.trans hp.symm) h2 hms
theorem eqVs_strs : ∀ (ss ms : List Str), eqVs (ss.map V.str) (ms.map V.str) = decide (ss = ms)
  | [], [] => rfl
  | [], _ :: _ => rfl
  | _ :: _, [] => rfl
  | a :: r, b :: q => by
    show (eqV (.str a) (.str b) && eqVs (r.map V.str) (q.map V.str)) = _
    rw [eqVs_strs r q]
    show ((a == b) && decide (r = q)) = _
    rw [Bool.eq_iff_iff]
    simp
section
variable {P : Program} {w : World} {K : PySem.W.Frag} {mg : Str → Option Value} {base : Heap}
theorem scRising : FnScope ["things"] ["things"] (defScope sRising) := ⟨rfl, rfl, rfl, by decide +kernel, rfl, by decide +kernel, by decide +kernel⟩
theorem ok_rising {f : Addr} {fd : FuncData} (F : Fun K "is_rising" "is_rising" sRising f fd) (T : Txt K mg) (hlist : mg "list" = none) (hsor : mg "sorted" = none) : FnOk P w K mg base CX0 1 f fd ["things"] spRising := by
  refine F.ok scRising (fun vs H Q E h => ?_) (fun cdv A outer s H vs Q E hr h => ?_)
  · obtain ⟨a, ss, rfl, _⟩ := h
    rfl
  · obtain ⟨a, ss, rfl, ha, hl, k⟩ := h
    have hu := hu_of hr
    have hu' : (A.deeper (PyProof.Rows.envOfC "is_rising" (defScope sRising) s.heap.objs.size f cdv)).units < cLine := by first | lia | omega
    refine ⟨_, pss_one (ps_ret (pe_cmpR (op_eqL hu') (pe_callTy call_list_of (by rfl) hlist (by kernel_rfl) (pa_c (pv 0) pa_nil)) (pe_callB (call_sortedQ rfl) (by rfl) hsor (by kernel_rfl) (pa_c (pe_callTy (call_setQ rfl) (by rfl) T.set (by kernel_rfl) (pa_c (pv 0) pa_nil)) pa_nil)) (nomark _))), ?_⟩
    refine ⟨_, rfl, a, ss.map V.str, rfl, ha.imp SqL.of SqT.of, fun L hL => ?_⟩
    have sL := Same.new (o := .lst (ss.map V.str)) hL
    refine ⟨_, rfl, a, ss, rfl, ha.imp (sL _ _) (sL _ _), by first | lia | omega, fun S hS => ?_⟩
    have sS := Same.new (o := setQ P w S ss) hS
    refine ⟨S, ss, rfl, upd_same, by first | lia | omega, fun l ms hl2 hp hs => ?_⟩
    have sl := Same.new (o := .lst (ms.map V.str)) hl2
    refine ⟨L, l, _, _, rfl, rfl, SqL.of (sl _ _ (sS _ _ upd_same)), SqL.of upd_same, flat_strs ss, flat_strs ms, ?_⟩
    rw [eqVs_strs, rising_iff hp hs]
    exact k _ ((sL.trans sS).trans sl)
end
end K3

set_option linter.all false
set_option maxRecDepth 100000
set_option Elab.async false
set_option maxHeartbeats 8000000
namespace K3
open PySem L2
noncomputable def pD (x : P3) : PyData := .tuple [.str x.1, .str x.2.1, .int x.2.2]
inductive OrdTo : PyData → PyData → Prop
  | short {ds : List PyData} (h : ds.length ≠ 5) : OrdTo (.tuple ds) (.tuple ds)
  | other {kind : Str} {n dy f l : PyData} (h1 : kind ≠ "part") (h2 : kind ≠ "join") : OrdTo (.tuple [.str kind, n, dy, f, l]) (.tuple [.str kind, n, dy, f, l])
  | part {n dy f : PyData} {T R : List P3} (hp : T.Perm R) (hr : RiseP R) (h2 : 2 ≤ T.length) (h6 : T.length ≤ 6) (ha : (T.map pD).all partD = true) : OrdTo (.tuple [.str "part", n, dy, f, .tuple (T.map pD)]) (.tuple [.str "part", n, dy, f, .tuple (R.map pD)])
  | join {n dy l : PyData} {T R : List Str} (hp : T.Perm R) (hr : risingB R = true) (h6 : T.length ≤ 6) (ha : (T.map PyData.str).all nameD = true) : OrdTo (.tuple [.str "join", n, dy, .tuple (T.map PyData.str), l]) (.tuple [.str "join", n, dy, .tuple (R.map PyData.str), l])
inductive I_spOrd (vs : List V) (H : Hp) (Q : VK) (u3_ : XK) : Prop
  | mk (m : Bool) (x : V) (d d' : PyData) (q0 : vs = [x]) (q1 : RdV m H x d) (q2 : OrdTo d d') (q3 : ∀ y H', Same H H' → RdV m H' y d' → Q y H') : I_spOrd vs H Q u3_
noncomputable def spOrd : Sp := fun vs H Q u3_ => I_spOrd vs H Q u3_
theorem part_read {m : Bool} {H : Hp} {v : V} {x : P3} (h : RdV m H v (pD x)) : PartH H v x := by
  unfold pD at h
  cases h with
  | @tup a xs _ e hl r =>
    cases r with
    | cons r1 r =>
      cases r with
      | cons r2 r =>
        cases r with
        | cons r3 r =>
          cases r
          cases r1
          cases r2
          cases r3
          exact ⟨a, rfl, e⟩
theorem parts_read {m : Bool} {H : Hp} {vs : List V} {T : List P3} (r : RdVs m H vs (T.map pD)) : ∀ i, i < vs.length → PartH H (vs.getD i .non) (T.getD i ("", "", 0)) := fun i hi => by
  have hl := r.len
  rw [List.length_map] at hl
  obtain ⟨d, hd, rd⟩ := r.at (List.getElem?_eq_getElem hi)
  rw [List.getElem?_map, List.getElem?_eq_getElem (by first | lia | omega)] at hd
  cases hd
  have := part_read rd
  rw [List.getD_eq_getElem?_getD, List.getD_eq_getElem?_getD, List.getElem?_eq_getElem hi, List.getElem?_eq_getElem (by first | lia | omega)]
  exact this
theorem read_pick {m : Bool} {H : Hp} {vs : List V} {ds : List PyData} (r : RdVs m H vs ds) : ∀ (q : List Nat), (∀ i ∈ q, i < vs.length) → RdVs m H (q.map fun i => vs.getD i .non) (q.map fun i => ds.getD i .none)
  | [], _ => .nil
  | i :: q, h => by
    have hi := h i (by simp)
    obtain ⟨d, hd, rd⟩ := r.at (List.getElem?_eq_getElem hi)
    refine .cons ?_ (read_pick r q fun j hj => h j (by simp [hj]))
    show RdV m H (vs.getD i .non) (ds.getD i .none)
    rw [List.getD_eq_getElem?_getD, List.getD_eq_getElem?_getD, List.getElem?_eq_getElem hi, hd]
    exact rd
theorem strs_read {m : Bool} {H : Hp} : ∀ {vs : List V} {T : List Str}, RdVs m H vs (T.map PyData.str) → vs = T.map V.str ∧ ∀ z ∈ T, z.length ≤ 1000
  | _, [], .nil => ⟨rfl, fun z hz => by simp at hz⟩
  | _, t :: T, .cons a r => by
    obtain ⟨e, h⟩ := strs_read (T := T) r
    cases a with
    | str _ hz =>
      refine ⟨by rw [e]; rfl, fun z hz' => ?_⟩
      rcases List.mem_cons.mp hz' with rfl | y
      · exact hz
      · exact h z y
theorem read_strs {m : Bool} {H : Hp} : ∀ {T : List Str}, (∀ z ∈ T, z.length ≤ 1000) → RdVs m H (T.map V.str) (T.map PyData.str)
  | [], _ => .nil
  | t :: T, h => .cons (.str t (h t (by simp))) (read_strs fun z hz => h z (by simp [hz]))
theorem rising_sorted {R : List Str} (h : risingB R = true) : R.Pairwise fun a b => ¬ b.cps.toList < a.cps.toList := (of_decide_eq_true h).imp fun {a b} z y => List.lt_irrefl _ (List.lt_trans z y)
section
variable {P : Program} {w : World} {K : PySem.W.Frag} {mg : Str → Option Value} {base : Heap}
theorem scOrd : FnScope ["thing", "kind", "name", "day", "first", "last"] ["thing"] (defScope sInOrder) := ⟨rfl, rfl, rfl, by decide +kernel, rfl, by decide +kernel, by decide +kernel⟩
theorem rd_str {m : Bool} {H : Hp} {x : V} {z : Str} (h : RdV m H x (.str z)) : x = .str z ∧ z.length ≤ 1000 := by
  cases h with
  | str _ h => exact ⟨rfl, h⟩
theorem rd5 {m : Bool} {H : Hp} {x : V} {d1 d2 d3 d4 d5 : PyData} (h : RdV m H x (.tuple [d1, d2, d3, d4, d5])) : ∃ (a : Addr) (x1 x2 x3 x4 x5 : V), x = .ref a ∧ H a = some (.tup [x1, x2, x3, x4, x5]) ∧ RdV m H x1 d1 ∧ RdV m H x2 d2 ∧ RdV m H x3 d3 ∧ RdV m H x4 d4 ∧ RdV m H x5 d5 := by
  cases h with
  | @tup a xs _ e hl r =>
  cases r with
  | @cons x1 _ _ _ r1 r =>
  cases r with
  | @cons x2 _ _ _ r2 r =>
  cases r with
  | @cons x3 _ _ _ r3 r =>
  cases r with
  | @cons x4 _ _ _ r4 r =>
  cases r with
  | @cons x5 _ _ _ r5 r =>
  cases r
  exact ⟨a, x1, x2, x3, x4, x5, rfl, e, r1, r2, r3, r4, r5⟩
theorem ok_ord {f fP fN : Addr} {fd fdP fdN : FuncData} (F : Fun K "in_order" "in_order" sInOrder f fd) (T : Txt K mg) (hsor : mg "sorted" = none)
    (GP : FnOk P w K mg base CX0 4 fP fdP ["thing"] spAllP) (mP : mg "all_parts" = some (.ref fP)) (kP : PySem.W.keepIn K (.ref fP) = true) (bP : Binds K fdP ["thing"] [])
    (GN : FnOk P w K mg base CX0 2 fN fdN ["thing"] spAllN) (mN : mg "all_names" = some (.ref fN)) (kN : PySem.W.keepIn K (.ref fN) = true) (bN : Binds K fdN ["thing"] []) :
    FnOk P w K mg base CX0 5 f fd ["thing"] spOrd := by
  refine F.ok scOrd (fun vs H Q E h => ?_) (fun cdv A outer s H vs Q E hr h => ?_)
  · obtain ⟨m, x, d, d', rfl, _⟩ := h
    rfl
  · obtain ⟨m, x, d, d', rfl, hx, ho, k⟩ := h
    have hr2 : Room 2 _ := hr.mono (by decide)
    refine ⟨_, pss_cons (ps_if (PW.pt (pw_or (pt_not (pt_val (pe_callB call_isinst (by rfl) T.isi (by kernel_rfl) (pa_c (pv 0) (pa_c (pe_bltn (v := .ty "tuple") (by rfl) T.tuple (by kernel_rfl) rfl) pa_nil)))))
        (pw_or1 (pt_cmpR op_ne (pe_callB call_len_seq (by rfl) T.len PySem.boot_len (pa_c (pv 0) pa_nil)) pe_int (nomark _))))) (pss_one (ps_ret (pv 0))) pss_nil)
      (pss_cons (ps_asg (pv 0) (pg_tup rfl (pgs_cons (pg_name (i := 1) scOrd.nd rfl (Or.inl rfl)) (pgs_cons (pg_name (i := 2) scOrd.nd rfl (Or.inl rfl)) (pgs_cons (pg_name (i := 3) scOrd.nd rfl (Or.inl rfl)) (pgs_cons (pg_name (i := 4) scOrd.nd rfl (Or.inl rfl)) (pgs_cons (pg_name (i := 5) scOrd.nd rfl (Or.inl rfl)) pgs_nil)))))))
      (pss_cons (ps_if (PW.pt (pw_and (pt_cmpR op_eq (pv 1) pe_str (nomark _)) (pw_and1 (pt_val (pe_call GP hr rfl mP kP bP .nil pass0 (pa_c (pv 5) pa_nil)))))) (pss_one (ps_ret (pe_tup (pa_c (pv 1) (pa_c (pv 2) (pa_c (pv 3) (pa_c (pv 4) (pa_c (pe_callTy call_tuple_of (by rfl) T.tuple (by kernel_rfl) (pa_c (pe_callB call_sortedP (by rfl) hsor (by kernel_rfl) (pa_c (pv 5) pa_nil)) pa_nil)) pa_nil)))))))) pss_nil)
      (pss_cons (ps_if (PW.pt (pw_and (pt_cmpR op_eq (pv 1) pe_str (nomark _)) (pw_and1 (pt_val (pe_call GN hr2 rfl mN kN bN .nil pass0 (pa_c (pv 4) pa_nil)))))) (pss_one (ps_ret (pe_tup (pa_c (pv 1) (pa_c (pv 2) (pa_c (pv 3) (pa_c (pe_callTy call_tuple_of (by rfl) T.tuple (by kernel_rfl) (pa_c (pe_callB call_sortedST (by rfl) hsor (by kernel_rfl) (pa_c (pv 4) pa_nil)) pa_nil)) (pa_c (pv 5) pa_nil)))))))) pss_nil)
      (pss_one (ps_ret (pv 0)))))), ?_⟩
    refine ⟨_, rfl, _, "tuple", _, _, rfl, ty_of hx, kit_tup d, _, rfl, ?_⟩
    cases ho with
    | @short ds hn =>
      cases hx with
      | @tup a xs _ e hl r =>
        have hlen := r.len
        refine iteF ?_
        refine ⟨_, rfl, a, xs, rfl, .inr (SqT.of e), rfl, _, rfl, ?_⟩
        refine ite2 (fun g => ?_) (fun g => ?_)
        · exact ⟨_, rfl, k _ H (Same.refl H) (.tup e hl r)⟩
        · exfalso
          apply g
          rw [decide_eq_false (show ¬ V.int (xs.length : Int) = V.int 5 from fun z => by injection z with z; first | lia | omega)]
          rfl
    | @other kind n dy f l h1 h2 =>
      obtain ⟨a, x1, x2, x3, x4, x5, rfl, e, r1, r2, r3, r4, r5⟩ := rd5 hx
      obtain ⟨rfl, hkz⟩ := rd_str r1
      have hl : (5 : Nat) ≤ 1000 := by decide
      refine iteF ?_
      refine ⟨_, rfl, a, _, rfl, .inr (SqT.of e), rfl, _, rfl, ?_⟩
      refine ite2 (fun g => absurd g (by simp)) (fun g => ?_)
      refine ⟨_, rfl, a, _, rfl, SqT.of e, rfl, _, _, rfl, _, _, rfl, _, _, rfl, _, _, rfl, _, _, rfl, rfl, ?_⟩
      refine ⟨_, rfl, rfl, _, rfl, ?_⟩
      rw [decide_eq_false (show ¬ V.str kind = V.str "part" from fun z => by injection z with z; exact h1 z)]
      refine iteF ?_
      refine ⟨_, rfl, rfl, _, rfl, ?_⟩
      rw [decide_eq_false (show ¬ V.str kind = V.str "join" from fun z => by injection z with z; exact h2 z)]
      refine iteF ?_
      exact ⟨_, rfl, k _ H (Same.refl H) (.tup e hl (.cons (.str kind hkz) (.cons r2 (.cons r3 (.cons r4 (.cons r5 .nil))))))⟩
    | @part n dy f T R hp hrr h2 h6 ha => 
      obtain ⟨a, x1, x2, x3, x4, x5, rfl, e, r1, r2, r3, r4, r5⟩ := rd5 hx
      obtain ⟨rfl, hkz⟩ := rd_str r1
      have hl : (5 : Nat) ≤ 1000 := by decide
      refine iteF ?_
      refine ⟨_, rfl, a, _, rfl, .inr (SqT.of e), rfl, _, rfl, ?_⟩
      refine ite2 (fun g => absurd g (by simp)) (fun g => ?_)
      refine ⟨_, rfl, a, _, rfl, SqT.of e, rfl, _, _, rfl, _, _, rfl, _, _, rfl, _, _, rfl, _, _, rfl, rfl, ?_⟩
      refine ⟨_, rfl, rfl, _, rfl, ?_⟩
      rw [decide_eq_true (show V.str "part" = V.str "part" from rfl)]
      refine iteT ?_
      refine ⟨_, rfl, m, x5, _, rfl, r5, fun H1 s1 => ⟨_, rfl, ?_⟩⟩
      refine ite2 (fun g => ?_) (fun g => absurd ha g)
      cases r5 with
      | @tup a5 xs5 _ e5 hl5 rr5 =>
      have hl5' := rr5.len
      rw [List.length_map] at hl5'
      refine ⟨_, rfl, _, rfl, _, rfl, _, rfl, ?_⟩
      refine ⟨_, rfl, a5, xs5, T, rfl, s1 _ _ e5, hl5', by first | lia | omega, by first | lia | omega, parts_read (rr5.same s1), fun L hL => ?_⟩
      have sL := Same.new (o := .lst ((kord T).map fun i => xs5.getD i .non)) hL
      have hkp := kord_perm T (by first | lia | omega)
      have hkl : (kord T).length = T.length := by rw [hkp.length_eq, List.length_range]
      refine ⟨L, _, rfl, .inl ⟨SqL.of upd_same, fun t ht => ?_⟩⟩
      have sT := Same.new (o := .tup ((kord T).map fun i => xs5.getD i .non)) ht
      have rR : RdVs m H ((kord T).map fun i => xs5.getD i .non) (R.map pD) := by
        have rp := read_pick rr5 (kord T) (fun i hi => by
          have := hkp.mem_iff.mp hi
          rw [List.mem_range] at this
          first | lia | omega)
        have e2 : (kord T).map (fun i => (T.map pD).getD i .none) = R.map pD := by
          rw [← kord_sorted hp hrr h2 h6 ("", "", 0), List.map_map]
          refine List.map_congr_left fun i hi => ?_
          have hlt := hkp.mem_iff.mp hi
          rw [List.mem_range] at hlt
          simp [hlt]
        rw [e2] at rp
        exact rp
      refine ⟨sizeLine_big (by show 5 ≤ 1000000; decide), fun t2 ht2 => ?_⟩
      have s2 := Same.new (o := .tup [V.str "part", x2, x3, x4, .ref t]) ht2
      have sA := ((s1.trans sL).trans sT).trans s2
      exact k _ _ sA (.tup upd_same (by show 5 ≤ 1000; decide) (.cons (.str _ hkz) (.cons (r2.same sA) (.cons (r3.same sA) (.cons (r4.same sA) (.cons (.tup (s2 _ _ upd_same) (by rw [List.length_map]; first | lia | omega) (rR.same sA)) .nil))))))
    | @join n dy l T R hp hrr h6 ha =>
      obtain ⟨a, x1, x2, x3, x4, x5, rfl, e, r1, r2, r3, r4, r5⟩ := rd5 hx
      obtain ⟨rfl, hkz⟩ := rd_str r1
      have hl : (5 : Nat) ≤ 1000 := by decide
      refine iteF ?_
      refine ⟨_, rfl, a, _, rfl, .inr (SqT.of e), rfl, _, rfl, ?_⟩
      refine ite2 (fun g => absurd g (by simp)) (fun g => ?_)
      refine ⟨_, rfl, a, _, rfl, SqT.of e, rfl, _, _, rfl, _, _, rfl, _, _, rfl, _, _, rfl, _, _, rfl, rfl, ?_⟩
      refine ⟨_, rfl, rfl, _, rfl, ?_⟩
      rw [decide_eq_false (show ¬ V.str "join" = V.str "part" from by decide)]
      refine iteF ?_
      refine ⟨_, rfl, rfl, _, rfl, ?_⟩
      rw [decide_eq_true (show V.str "join" = V.str "join" from rfl)]
      refine iteT ?_
      refine ⟨_, rfl, m, x4, _, rfl, r4, fun H1 s1 => ⟨_, rfl, ?_⟩⟩
      refine ite2 (fun g => ?_) (fun g => absurd ha g)
      cases r4 with
      | @tup a4 xs4 _ e4 hl4 rr4 =>
      obtain ⟨ex4, hz4⟩ := strs_read rr4
      subst ex4
      refine ⟨_, rfl, _, rfl, _, rfl, ?_⟩
      refine ⟨_, rfl, a4, T, rfl, s1 _ _ e4, by first | lia | omega, fun L ms hL hpm hsm => ?_⟩
      have sL := Same.new (o := .lst (ms.map V.str)) hL
      have ems : ms = R := sorted_uniq (hpm.trans hp) (sortedS_pair ms hsm) (rising_sorted hrr)
      subst ems
      refine ⟨L, _, rfl, .inl ⟨SqL.of upd_same, fun t ht => ?_⟩⟩
      have sT := Same.new (o := .tup (ms.map V.str)) ht
      have rR : RdVs m H (ms.map V.str) (ms.map PyData.str) := read_strs fun z hz => hz4 z (hp.mem_iff.mpr hz)
      refine ⟨_, rfl, sizeLine_big (by show 5 ≤ 1000000; decide), fun t2 ht2 => ?_⟩
      have s2 := Same.new (o := .tup [V.str "join", x2, x3, .ref t, x5]) ht2
      have sA := ((s1.trans sL).trans sT).trans s2
      have hml := hp.length_eq
      exact k _ _ sA (.tup upd_same (by show 5 ≤ 1000; decide) (.cons (.str _ hkz) (.cons (r2.same sA) (.cons (r3.same sA) (.cons (.tup (s2 _ _ upd_same) (by rw [List.length_map]; first | lia | omega) (rR.same sA)) (.cons (r5.same sA) .nil))))))
end
end K3

set_option linter.all false
set_option maxRecDepth 100000
set_option Elab.async false
set_option maxHeartbeats 8000000
namespace K3
open PySem L2
inductive I_spRowOfP (vs : List V) (H : Hp) (Q : VK) (u3_ : XK) : Prop
  | mk (m : Bool) (x : V) (d d' : PyData) (q0 : vs = [x]) (q1 : RdV m H x d) (q2 : OrdTo (tupD 3 d) d') (q3 : rowD d' = true) (q4 : ∀ y H', Same H H' → RdV m H' y d' → Q y H') : I_spRowOfP vs H Q u3_
noncomputable def spRowOfP : Sp := fun vs H Q u3_ => I_spRowOfP vs H Q u3_
section
variable {P : Program} {w : World} {K : PySem.W.Frag} {mg : Str → Option Value} {base : Heap}
theorem scRowOfP : FnScope ["thing", "row"] ["thing"] (defScope sRowOfP) := ⟨rfl, rfl, rfl, by decide +kernel, rfl, by decide +kernel, by decide +kernel⟩
theorem ok_rowOfP {f fA fO fI : Addr} {fd fdA fdO fdI : FuncData} (F : Fun K "row_of" "row_of" sRowOfP f fd) (hdep : ∃ t, mg "ROW_DEPTH" = some (.int 3 t))
    (GA : FnOk P w K mg base CX0 4 fA fdA ["thing", "deep"] (spAs 3)) (mA : mg "as_tuples" = some (.ref fA)) (kA : PySem.W.keepIn K (.ref fA) = true) (bA : Binds K fdA ["thing", "deep"] [])
    (GO : FnOk P w K mg base CX0 5 fO fdO ["thing"] spOrd) (mO : mg "in_order" = some (.ref fO)) (kO : PySem.W.keepIn K (.ref fO) = true) (bO : Binds K fdO ["thing"] [])
    (GI : FnOk P w K mg base CX0 7 fI fdI ["thing"] spIsRow) (mI : mg "is_row" = some (.ref fI)) (kI : PySem.W.keepIn K (.ref fI) = true) (bI : Binds K fdI ["thing"] []) :
    FnOk P w K mg base CX0 8 f fd ["thing"] spRowOfP := by
  refine F.ok scRowOfP (fun vs H Q E h => ?_) (fun cdv A outer s H vs Q E hr h => ?_)
  · obtain ⟨m, x, d, d', rfl, _⟩ := h
    rfl
  · obtain ⟨m, x, d, d', rfl, hx, ho, hrow, k⟩ := h
    have hr4 : Room 4 _ := hr.mono (by decide)
    have hr5 : Room 5 _ := hr.mono (by decide)
    obtain ⟨td, hdp⟩ := hdep
    refine ⟨_, pss_cons (ps_set (i := 1) scRowOfP.nd rfl (Or.inl rfl) (pe_call GO hr5 rfl mO kO bO .nil pass0 (pa_c (pe_call GA hr4 rfl mA kA bA .nil pass0 (pa_c (pv 0) (pa_c (pe_glob (v := .int 3) (by rfl) hdp ⟨_, rfl⟩) pa_nil))) pa_nil)))
      (pss_cons (ps_if (pt_not (pt_val (pe_call GI hr rfl mI kI bI .nil pass0 (pa_c (pv 1) pa_nil)))) pss_never pss_nil)
      (pss_one (ps_ret (pv 1)))), ?_⟩
    refine ⟨_, rfl, m, x, d, rfl, hx, fun y H1 s1 r1 => ?_⟩
    refine ⟨m, y, _, d', rfl, r1, ho, fun z H2 s2 r2 => ?_⟩
    refine ⟨_, rfl, m, z, d', rfl, r2, fun H3 s3 => ⟨_, rfl, ?_⟩⟩
    rw [hrow]
    refine iteF ?_
    exact ⟨_, rfl, k _ _ ((s1.trans s2).trans s3) (r2.same s3)⟩
end
end K3

set_option linter.all false
set_option maxRecDepth 100000
set_option Elab.async false
set_option maxHeartbeats 16000000
namespace K3
open PySem L2
structure S3 (H : Hp) (lf lp lh : Addr) (fs ps hs : List Str) : Prop where
  f : H lf = some (.lst (fs.map V.str))
  p : H lp = some (.lst (ps.map V.str))
  h : H lh = some (.lst (hs.map V.str))
  f1 : 1 ≤ fs.length
  f2 : fs.length ≤ 44
  p1 : ps.length = 10
  h1 : hs.length = 5
  nf : Nms fs
  np : Nms ps
  nh : Nms hs
theorem S3.but {H H' : Hp} {lf lp lh : Addr} {fs ps hs : List Str} {p c : Addr} {ns : List Int} {t : Int} (x : S3 H lf lp lh fs ps hs) (hp : PenAt H p c ns t) (k : KeepBut p H H') : S3 H' lf lp lh fs ps hs := ⟨lst_but x.f hp k, lst_but x.p hp k, lst_but x.h hp k, x.f1, x.f2, x.p1, x.h1, x.nf, x.np, x.nh⟩
theorem S3.same {H H' : Hp} {lf lp lh : Addr} {fs ps hs : List Str} (x : S3 H lf lp lh fs ps hs) (k : Same H H') : S3 H' lf lp lh fs ps hs := ⟨k _ _ x.f, k _ _ x.p, k _ _ x.h, x.f1, x.f2, x.p1, x.h1, x.nf, x.np, x.nh⟩
inductive RowS : Str → List PyData → Prop
  | part {land : Str} {R : List P3} (hl : nameB land = true) (hr : RiseP R) (h2 : 2 ≤ R.length) (h6 : R.length ≤ 6) (ha : (R.map pD).all partD = true) : RowS "part" [.str land, .tuple (R.map pD)]
  | join {land : Str} {R : List Str} (hl : nameB land = true) (hr : risingB R = true) (h2 : 2 ≤ R.length) (h6 : R.length ≤ 6) (ha : (R.map PyData.str).all nameD = true) : RowS "join" [.tuple (R.map PyData.str), .str land]
  | forfeit {land house : Str} (hl : nameB land = true) (hh : nameB house = true) : RowS "forfeit" [.str land, .str house]
  | measure {field : Str} {n : Int} (hf : nameB field = true) (h0 : 0 ≤ n) (h1 : n ≤ 10000000) : RowS "measure" [.str field, .int n]
  | mend {house other : Str} (hh : nameB house = true) (ho : nameB other = true) (hne : house ≠ other) : RowS "mend" [.str house, .str other]
  | alone {house : Str} (hh : nameB house = true) : RowS "alone" [.str house]
  | breach {field : Str} {n1 n2 n3 : Int} (hf : nameB field = true) (h10 : 0 ≤ n1) (h11 : n1 ≤ 9999999) (h20 : 0 ≤ n2) (h21 : n2 ≤ 1000000000) (h30 : 0 ≤ n3) (h31 : n3 ≤ 1000000) : RowS "breach" [.str field, .int n1, .int n2, .int n3]
  | view {field house : Str} {n1 : Int} (hf : nameB field = true) (h10 : 0 ≤ n1) (h11 : n1 ≤ 9999999) (hh : nameB house = true) : RowS "view" [.str field, .int n1, .str house]
noncomputable def rowDat (word name : Str) (day : Int) (ds : List PyData) : PyData := .tuple (.str word :: .str name :: .int day :: ds)
theorem rowS_row {word name : Str} {day : Int} {ds : List PyData} (h : RowS word ds) (hn : nameB name = true) (h0 : 0 ≤ day) (h1 : day ≤ 9999) : rowD (rowDat word name day ds) = true := by
  have go : decide (word ∈ words8) = true → fitD word ds = true → rowD (rowDat word name day ds) = true := fun a b => by
    show (decide (word ∈ words8) && (nameB name && (decide (0 ≤ day ∧ day ≤ 9999) && fitD word ds))) = true
    rw [a, hn, b, decide_eq_true (show 0 ≤ day ∧ day ≤ 9999 from ⟨h0, h1⟩)]
    rfl
  cases h with
  | @part land R hl hr h2 h6 ha =>
    refine go (by decide) ?_
    show (nameB land && ((R.map pD).all partD && decide (2 ≤ (R.map pD).length ∧ (R.map pD).length ≤ 6) && risingB ((R.map pD).map headS))) = true
    have e : (R.map pD).map headS = R.map (·.1) := by rw [List.map_map]; rfl
    rw [hl, ha, e, List.length_map, decide_eq_true (show 2 ≤ R.length ∧ R.length ≤ 6 from ⟨h2, h6⟩)]
    exact decide_eq_true (List.pairwise_map.mpr hr)
  | @join land R hl hr h2 h6 ha =>
    refine go (by decide) ?_
    rw [show fitD "join" [.tuple (R.map PyData.str), .str land] = fJoin [.tuple (R.map PyData.str), .str land] from by unfold fitD; rw [if_neg (by decide), if_pos rfl]]
    show (((R.map PyData.str).all nameD && decide (2 ≤ (R.map PyData.str).length ∧ (R.map PyData.str).length ≤ 6) && risingB ((R.map PyData.str).map strD)) && nameB land) = true
    have e : (R.map PyData.str).map strD = R := by rw [List.map_map]; exact List.map_id R
    rw [hl, ha, e, List.length_map, decide_eq_true (show 2 ≤ R.length ∧ R.length ≤ 6 from ⟨h2, h6⟩), hr]
    rfl
  | @forfeit land house hl hh =>
    refine go (by decide) ?_
    rw [show fitD "forfeit" [.str land, .str house] = fForfeit [.str land, .str house] from by unfold fitD; rw [if_neg (by decide), if_neg (by decide), if_pos rfl]]
    show (true && (nameB land && (nameB house && true))) = true
    rw [hl, hh]
    rfl
  | @measure field n hf h0 h1 =>
    refine go (by decide) ?_
    rw [show fitD "measure" [.str field, .int n] = fMeasure [.str field, .int n] from by unfold fitD; rw [if_neg (by decide), if_neg (by decide), if_neg (by decide), if_pos rfl]]
    show (nameB field && decide (0 ≤ n ∧ n ≤ 10000000)) = true
    rw [hf, decide_eq_true (show 0 ≤ n ∧ n ≤ 10000000 from ⟨h0, h1⟩)]
    rfl
  | @mend house other hh ho hne =>
    refine go (by decide) ?_
    rw [show fitD "mend" [.str house, .str other] = fMend [.str house, .str other] from by unfold fitD; rw [if_neg (by decide), if_neg (by decide), if_neg (by decide), if_neg (by decide), if_pos rfl]]
    show (nameB house && nameB other && !decide (house = other)) = true
    rw [hh, ho, decide_eq_false hne]
    rfl
  | @alone house hh =>
    refine go (by decide) ?_
    rw [show fitD "alone" [.str house] = fAlone [.str house] from by unfold fitD; rw [if_neg (by decide), if_neg (by decide), if_neg (by decide), if_neg (by decide), if_neg (by decide), if_pos rfl]]
    exact hh
  | @breach field n1 n2 n3 hf h10 h11 h20 h21 h30 h31 =>
    refine go (by decide) ?_
    rw [show fitD "breach" [.str field, .int n1, .int n2, .int n3] = fBreach [.str field, .int n1, .int n2, .int n3] from by unfold fitD; rw [if_neg (by decide), if_neg (by decide), if_neg (by decide), if_neg (by decide), if_neg (by decide), if_neg (by decide), if_pos rfl]]
    show (nameB field && decide (0 ≤ n1 ∧ n1 ≤ 9999999) && decide (0 ≤ n2 ∧ n2 ≤ 1000000000) && decide (0 ≤ n3 ∧ n3 ≤ 1000000)) = true
    rw [hf, decide_eq_true (show 0 ≤ n1 ∧ n1 ≤ 9999999 from ⟨h10, h11⟩), decide_eq_true (show 0 ≤ n2 ∧ n2 ≤ 1000000000 from ⟨h20, h21⟩), decide_eq_true (show 0 ≤ n3 ∧ n3 ≤ 1000000 from ⟨h30, h31⟩)]
    rfl
  | @view field house n1 hf h10 h11 hh =>
    refine go (by decide) ?_
    rw [show fitD "view" [.str field, .int n1, .str house] = fView [.str field, .int n1, .str house] from by unfold fitD; rw [if_neg (by decide), if_neg (by decide), if_neg (by decide), if_neg (by decide), if_neg (by decide), if_neg (by decide), if_neg (by decide)]]
    show (nameB field && decide (0 ≤ n1 ∧ n1 ≤ 9999999) && nameB house) = true
    rw [hf, decide_eq_true (show 0 ≤ n1 ∧ n1 ≤ 9999999 from ⟨h10, h11⟩), hh]
    rfl
theorem nm_rd {m : Bool} {H : Hp} {z : Str} (h : nameB z = true) : RdV m H (.str z) (.str z) := .str z (by have := (nameB_len h).2; first | lia | omega)
theorem word_len {w : Str} (h : w ∈ words8) : w.length ≤ 1000 := by
  have : ∀ w ∈ words8, w.length ≤ 1000 := by decide
  exact this w h
theorem some_rises {ms us vs ws : List Str} (hs : PyProof.Rows.sortedS ms = true) (hp : ms.Perm us) (hq : (us ++ vs).Perm ws) (hn : Nms ws) : risingB ms = true ∧ ∀ z ∈ ms, nameB z = true := by
  have hnu : us.Nodup := (List.nodup_append.mp (hq.nodup_iff.mpr hn.nd)).1
  have hnm : ms.Nodup := hp.nodup_iff.mpr hnu
  refine ⟨decide_eq_true (((sortedS_pair ms hs).and hnm).imp fun {a b} h => ?_), fun z hz => hn.ok z (hq.mem_iff.mp (List.mem_append_left _ (hp.mem_iff.mp hz)))⟩
  rcases Decidable.em (a.cps.toList < b.cps.toList) with z | z
  · exact z
  · exact absurd (cps_inj (List.le_antisymm (List.not_lt.mp h.1) (List.not_lt.mp z))) h.2
inductive I_spRowOf (vs : List V) (H : Hp) (Q : VK) (u3_ : XK) : Prop
  | mk (p c : Addr) (ns : List Int) (a : Int) (word name : Str) (day : Int) (tS lf lp lh : Addr) (fs ps hs : List Str) (q0 : vs = [.ref p, .str word, .str name, .int day, .ref tS]) (q1 : PenAt H p c ns a) (q2 : a ≤ 700000) (q3 : H tS = some (.tup [.ref lf, .ref lp, .ref lh])) (q4 : S3 H lf lp lh fs ps hs) (q5 : word ∈ words8) (q6 : nameB name = true) (q7 : ∀ (t : Addr) (ds : List PyData) (rest : List V) (a' : Int) (H' : Hp), H' t = some (.tup (.str word :: .str name :: .int day :: rest)) → RdVs false H' rest ds → RowS word ds → a ≤ a' → a' ≤ a + 80 → PenAt H' p c ns a' → KeepBut p H H' → Q (.ref t) H') : I_spRowOf vs H Q u3_
noncomputable def spRowOf : Sp := fun vs H Q u3_ => I_spRowOf vs H Q u3_
section
variable {P : Program} {w : World} {K : PySem.W.Frag} {mg : Str → Option Value} {base : Heap}
theorem scRowOf : FnScope ["_law_pen_here", "_law_word", "_law_name", "_law_day", "_law_sorts_here", "_law_fields", "_law_plots", "_law_houses", "_law_land", "_law_at", "_law_house", "_law_field", "_law_some_here", "_law_parts", "_law_inch"] ["_law_pen_here", "_law_word", "_law_name", "_law_day", "_law_sorts_here"] (defScope sRowOf) := ⟨rfl, rfl, rfl, by decide +kernel, rfl, by decide +kernel, by decide +kernel⟩
theorem ok_rowOf {f fT fN fS : Addr} {fd fdT fdN fdS : FuncData} (F : Fun K "_law_row_of" "_law_row_of" sRowOf f fd) (hlen : mg "len" = none) (htup : mg "tuple" = none)
    (GT : FnOk P w K mg base CX0 1 fT fdT ["_law_pen_here", "_law_many"] spTake) (mT : mg "_law_take" = some (.ref fT)) (kT : PySem.W.keepIn K (.ref fT) = true) (bT : Binds K fdT ["_law_pen_here", "_law_many"] [])
    (GN : FnOk P w K mg base CX0 2 fN fdN ["_law_pen_here", "_law_bottom", "_law_most"] spNum) (mN : mg "_law_number" = some (.ref fN)) (kN : PySem.W.keepIn K (.ref fN) = true) (bN : Binds K fdN ["_law_pen_here", "_law_bottom", "_law_most"] [])
    (GS : FnOk P w K mg base CX0 2 fS fdS ["_law_pen_here", "_law_names_here", "_law_many"] spSome) (mS : mg "_law_some" = some (.ref fS)) (kS : PySem.W.keepIn K (.ref fS) = true) (bS : Binds K fdS ["_law_pen_here", "_law_names_here", "_law_many"] []) :
    FnOk P w K mg base CX0 3 f fd ["_law_pen_here", "_law_word", "_law_name", "_law_day", "_law_sorts_here"] spRowOf := by
  refine F.ok scRowOf (fun vs H Q E h => ?_) (fun cdv A outer s H vs Q E hr h => ?_)
  · obtain ⟨p, c, ns, a, word, name, day, tS, lf, lp, lh, fs, ps, hs, rfl, _⟩ := h
    rfl
  · obtain ⟨p, c, ns, a, word, name, day, tS, lf, lp, lh, fs, ps, hs, rfl, hp, ha, htS, h3, hwd, hnm, k⟩ := h
    have hr1 : Room 1 _ := hr.mono (by decide)
    refine ⟨_, pss_cons (ps_asg (pv 4) (pg_tup rfl (pgs_cons (pg_name (i := 5) scRowOf.nd rfl (Or.inl rfl)) (pgs_cons (pg_name (i := 6) scRowOf.nd rfl (Or.inl rfl)) (pgs_cons (pg_name (i := 7) scRowOf.nd rfl (Or.inr rfl)) pgs_nil)))))
      (pss_cons (ps_set (i := 8) scRowOf.nd rfl (Or.inl rfl) (pe_ix ix_list (pv 6) (pe_call GT hr1 rfl mT kT bT .nil pass0 (pa_c (pv 0) (pa_c (pe_callB call_len_seq (by rfl) hlen PySem.boot_len (pa_c (pv 6) pa_nil)) pa_nil))) (fun _ _ => rfl)))
      (pss_cons (ps_set (i := 9) scRowOf.nd rfl (Or.inl rfl) (pe_call GT hr1 rfl mT kT bT .nil pass0 (pa_c (pv 0) (pa_c (pe_callB call_len_seq (by rfl) hlen PySem.boot_len (pa_c (pv 7) pa_nil)) pa_nil))))
      (pss_cons (ps_set (i := 10) scRowOf.nd rfl (Or.inl rfl) (pe_ix ix_list (pv 7) (pv 9) (fun _ _ => rfl)))
      (pss_cons (ps_set (i := 11) scRowOf.nd rfl (Or.inl rfl) (pe_ix ix_list (pv 5) (pe_call GT hr1 rfl mT kT bT .nil pass0 (pa_c (pv 0) (pa_c (pe_callB call_len_seq (by rfl) hlen PySem.boot_len (pa_c (pv 5) pa_nil)) pa_nil))) (fun _ _ => rfl)))
      (pss_cons (ps_if (pt_cmpR op_in_seq (pv 1) (pe_tup (pa_c pe_str (pa_c pe_str pa_nil))) (by with_unfolding_all rfl))
        (pss_cons (ps_set (i := 12) scRowOf.nd rfl (Or.inl rfl) (pe_call GS hr rfl mS kS bS .nil pass0 (pa_c (pv 0) (pa_c (pv 6) (pa_c (pe_ix ix_list (pe_lst (pa_c pe_int (pa_c pe_int (pa_c (pe_op op_add pe_int (pe_call GT hr1 rfl mT kT bT .nil pass0 (pa_c (pv 0) (pa_c pe_int pa_nil)))) pa_nil)))) (pe_call GT hr1 rfl mT kT bT .nil pass0 (pa_c (pv 0) (pa_c pe_int pa_nil))) (fun _ _ => rfl)) pa_nil)))))
        (pss_cons (ps_if (pt_cmpR op_eq (pv 1) pe_str (nomark _)) (pss_one (ps_ret (pe_tup (pa_c (pv 1) (pa_c (pv 2) (pa_c (pv 3) (pa_c (pe_callTy call_tuple_of (by rfl) htup (by kernel_rfl) (pa_c (pv 12) pa_nil)) (pa_c (pv 8) pa_nil)))))))) pss_nil)
        (pss_cons (ps_setComp (i := 13) (N := ["_law_one", "_law_houses", "_law_pen_here"]) (src := [none, some 7, some 0]) (osc := defScope sRowOf) (oN := ["_law_pen_here", "_law_word", "_law_name", "_law_day", "_law_sorts_here", "_law_fields", "_law_plots", "_law_houses", "_law_land", "_law_at", "_law_house", "_law_field", "_law_some_here", "_law_parts", "_law_inch"]) ⟨by rfl, by decide +kernel, by decide +kernel, by decide +kernel, rfl, by rfl⟩ scRowOf.nd rfl
            (pi_list (pv 12))
            fun cl s H fp pins C => ⟨pg_name (i := 0) (show (["_law_one", "_law_houses", "_law_pen_here"] : List Str).Nodup by decide +kernel) rfl (Or.inl rfl), pts_nil, pe_tup (pa_c (pv 0) (pa_c (pe_ix (r := rIxL K) ix_list (pv 1) (pe_call GT hr1 rfl mT kT bT .nil pass0 (pa_c (pv 2) (pa_c (pe_callB (r := r_call_len_seq K) call_len_seq (by rfl) hlen PySem.boot_len (pa_c (pv 1) pa_nil)) pa_nil))) (fun _ _ => rfl)) (pa_c (pe_call GN hr rfl mN kN bN .nil pass0 (pa_c (pv 2) (pa_c pe_int (pa_c (pe_op op_pow pe_int pe_int) pa_nil)))) pa_nil)))⟩)
        (pss_one (ps_ret (pe_tup (pa_c (pv 1) (pa_c (pv 2) (pa_c (pv 3) (pa_c (pv 8) (pa_c (pe_callTy call_tuple_of (by rfl) htup (by kernel_rfl) (pa_c (pv 13) pa_nil)) pa_nil)))))))))))
        pss_nil)
      (pss_cons (ps_if (pt_cmpR op_eq (pv 1) pe_str (nomark _)) (pss_one (ps_ret (pe_tup (pa_c (pv 1) (pa_c (pv 2) (pa_c (pv 3) (pa_c (pv 8) (pa_c (pv 10) pa_nil)))))))) pss_nil)
      (pss_cons (ps_if (pt_cmpR op_eq (pv 1) pe_str (nomark _)) (pss_one (ps_ret (pe_tup (pa_c (pv 1) (pa_c (pv 2) (pa_c (pv 3) (pa_c (pv 11) (pa_c (pe_call GN hr rfl mN kN bN .nil pass0 (pa_c (pv 0) (pa_c pe_int (pa_c (pe_op op_pow pe_int pe_int) pa_nil)))) pa_nil)))))))) pss_nil)
      (pss_cons (ps_if (pt_cmpR op_eq (pv 1) pe_str (nomark _)) (pss_one (ps_ret (pe_tup (pa_c (pv 1) (pa_c (pv 2) (pa_c (pv 3) (pa_c (pv 10) (pa_c (pe_ix ix_list (pv 7) (pe_op op_mod (pe_op op_add (pe_op op_add (pv 9) pe_int) (pe_call GT hr1 rfl mT kT bT .nil pass0 (pa_c (pv 0) (pa_c (pe_op op_sub (pe_callB call_len_seq (by rfl) hlen PySem.boot_len (pa_c (pv 7) pa_nil)) pe_int) pa_nil)))) (pe_callB call_len_seq (by rfl) hlen PySem.boot_len (pa_c (pv 7) pa_nil))) (fun _ _ => rfl)) pa_nil)))))))) pss_nil)
      (pss_cons (ps_if (pt_cmpR op_eq (pv 1) pe_str (nomark _)) (pss_one (ps_ret (pe_tup (pa_c (pv 1) (pa_c (pv 2) (pa_c (pv 3) (pa_c (pv 10) pa_nil))))))) pss_nil)
      (pss_cons (ps_set (i := 14) scRowOf.nd rfl (Or.inl rfl) (pe_call GN hr rfl mN kN bN .nil pass0 (pa_c (pv 0) (pa_c pe_int (pa_c (pe_op op_sub (pe_op op_pow pe_int pe_int) pe_int) pa_nil)))))
      (pss_cons (ps_if (pt_cmpR op_eq (pv 1) pe_str (nomark _)) (pss_one (ps_ret (pe_tup (pa_c (pv 1) (pa_c (pv 2) (pa_c (pv 3) (pa_c (pv 11) (pa_c (pv 14) (pa_c (pv 10) pa_nil))))))))) pss_nil)
      (pss_one (ps_ret (pe_tup (pa_c (pv 1) (pa_c (pv 2) (pa_c (pv 3) (pa_c (pv 11) (pa_c (pv 14) (pa_c (pe_call GN hr rfl mN kN bN .nil pass0 (pa_c (pv 0) (pa_c pe_int (pa_c (pe_op op_pow pe_int pe_int) pa_nil)))) (pa_c (pe_call GN hr rfl mN kN bN .nil pass0 (pa_c (pv 0) (pa_c pe_int (pa_c (pe_op op_pow pe_int pe_int) pa_nil)))) pa_nil))))))))))))))))))))), ?_⟩
    have fin : ∀ (rest : List V) (ds : List PyData) (H' : Hp) (a' : Int), RdVs false H' rest ds → RowS word ds → PenAt H' p c ns a' → KeepBut p H H' → a ≤ a' → a' ≤ a + 80 → ∀ t, H' t = none → Q (.ref t) (upd H' t (.tup (.str word :: .str name :: .int day :: rest))) := fun rest ds H' a' hR hS h1 h2 h4 h5 t ht => k t ds rest a' _ upd_same (hR.same (Same.new ht)) hS h4 h5 (h1.same (Same.new ht)) (h2.same (Same.new ht))
    have cp : ∀ j : Int, 0 ≤ j → j ≤ 1000000 → CPow 10 j := fun j h1 h2 => ⟨h1, h2, by decide⟩
    have p6 : ((10 : Int) ^ Int.toNat 6) = 1000000 := by decide +kernel
    have p7 : ((10 : Int) ^ Int.toNat 7) = 10000000 := by decide +kernel
    have p9 : ((10 : Int) ^ Int.toNat 9) = 1000000000 := by decide +kernel
    have e9 : (10 : Int) ^ 9 = 1000000000 := by decide +kernel
    have z2 : (2 : Nat) ≤ sizeLine := sizeLine_big (by decide)
    have z3 : (3 : Nat) ≤ sizeLine := sizeLine_big (by decide)
    have z4 : (4 : Nat) ≤ sizeLine := sizeLine_big (by decide)
    have z5 : (5 : Nat) ≤ sizeLine := sizeLine_big (by decide)
    have z6 : (6 : Nat) ≤ sizeLine := sizeLine_big (by decide)
    have z7 : (7 : Nat) ≤ sizeLine := sizeLine_big (by decide)
    have b10 := h3.p1
    have b5 := h3.h1
    have bf1 := h3.f1
    have bf2 := h3.f2
    refine ⟨_, rfl, tS, _, rfl, SqT.of htS, rfl, _, _, rfl, _, _, rfl, _, _, rfl, rfl, ?_⟩
    refine ⟨_, rfl, _, rfl, _, rfl, lp, _, rfl, .inl (SqL.of h3.p), p, c, ns, a, _, rfl, hp, by first | lia | omega, by rw [List.length_map]; first | lia | omega, by rw [List.length_map]; first | lia | omega, fun r1 a1 H1 r10 r11 la1 ua1 hp1 kp1 => ?_⟩
    have h31 := h3.but hp kp1
    obtain ⟨v, hv, hat⟩ := atI_in (xs := ps.map V.str) (i := r1) r10 r11
    obtain ⟨land, hland, rfl⟩ := List.mem_map.mp hv
    have nland := h3.np.ok land hland
    refine ⟨lp, _, r1, _, rfl, rfl, SqL.of h31.p, hat, ?_⟩
    refine ⟨_, rfl, _, rfl, lh, _, rfl, .inl (SqL.of h31.h), p, c, ns, a1, _, rfl, hp1, by first | lia | omega, by rw [List.length_map]; first | lia | omega, by rw [List.length_map]; first | lia | omega, fun r2 a2 H2 r20 r21 la2 ua2 hp2 kp2 => ?_⟩
    have h32 := h31.but hp1 kp2
    rw [List.length_map] at r21
    obtain ⟨j2, rfl⟩ : ∃ j2 : Nat, r2 = j2 := ⟨r2.toNat, by first | lia | omega⟩
    obtain ⟨house, hj2⟩ : ∃ y, hs[j2]? = some y := ⟨_, List.getElem?_eq_getElem (by first | lia | omega)⟩
    have nhouse := h3.nh.ok house (List.mem_of_getElem? hj2)
    have hat : atI (hs.map V.str) ((j2 : Nat) : Int) = some (V.str house) := atI_nat (by rw [List.getElem?_map, hj2]; rfl)
    refine ⟨_, rfl, _, rfl, lh, _, (j2 : Int), _, rfl, rfl, SqL.of h32.h, hat, ?_⟩
    refine ⟨_, rfl, _, rfl, _, rfl, lf, _, rfl, .inl (SqL.of h32.f), p, c, ns, a2, _, rfl, hp2, by first | lia | omega, by rw [List.length_map]; first | lia | omega, by rw [List.length_map]; first | lia | omega, fun r3 a3 H3 r30 r31 la3 ua3 hp3 kp3 => ?_⟩
    have h33 := h32.but hp2 kp3
    obtain ⟨v, hv, hat⟩ := atI_in (xs := fs.map V.str) (i := r3) r30 r31
    obtain ⟨field, hfield, rfl⟩ := List.mem_map.mp hv
    have nfield := h3.nf.ok field hfield
    refine ⟨lf, _, r3, _, rfl, rfl, SqL.of h33.f, hat, ?_⟩
    have k3 := (kp1.trans kp2).trans kp3
    refine ⟨_, rfl, z2, fun q hq => ?_⟩
    have sq := Same.new (o := .tup [V.str "part", .str "join"]) hq
    have hp4 := hp3.same sq
    have h34 := h33.same sq
    have k4 := k3.same sq
    have hq4 : upd H3 q (.tup [V.str "part", .str "join"]) q = _ := upd_same
    refine ⟨q, _, rfl, .inr (SqT.of hq4), rfl, rfl, _, rfl, ?_⟩
    generalize upd H3 q (.tup [V.str "part", .str "join"]) = H4 at hp4 h34 k4 hq4 ⊢
    refine ite2 (fun g1 => ?_) (fun g1 => ?_)
    · refine ⟨_, rfl, _, rfl, _, rfl, p, c, ns, a3, _, rfl, hp4, by first | lia | omega, by decide, by decide +kernel, fun x1 a5 H5 x10 x11 la5 ua5 hp5 kp5 => ?_⟩
      refine ⟨_, _, rfl, rfl, z3, fun u hu => ?_⟩
      have su := Same.new (o := .lst [V.int 2, .int 6, .int (2 + x1)]) hu
      refine ⟨_, rfl, p, c, ns, a5, _, rfl, hp5.same su, by first | lia | omega, by decide, by decide +kernel, fun x2 a6 H6 x20 x21 la6 ua6 hp6 kp6 => ?_⟩
      obtain ⟨v, hv, hat⟩ := atI_in (xs := [V.int 2, .int 6, .int (2 + x1)]) (i := x2) x20 (by show x2 < 3; first | lia | omega)
      obtain ⟨n, rfl, hn, hn2⟩ : ∃ n : Nat, v = .int n ∧ n ≤ 6 ∧ 2 ≤ n := by
        simp only [List.mem_cons, List.not_mem_nil, or_false] at hv
        rcases hv with rfl | rfl | rfl
        · exact ⟨2, rfl, by first | lia | omega, by first | lia | omega⟩
        · exact ⟨6, rfl, by first | lia | omega, by first | lia | omega⟩
        · exact ⟨(2 + x1).toNat, by congr 1; first | lia | omega, by first | lia | omega, by first | lia | omega⟩
      have k46 : KeepBut p H4 H6 := (kp5.same su).trans kp6
      refine ⟨u, _, x2, _, rfl, rfl, SqL.of (lst_but upd_same (hp5.same su) kp6), hat, ?_⟩
      have h36 := h34.but hp4 k46
      refine ⟨p, c, ns, a6, lp, ps, n, rfl, hp6, by first | lia | omega, h36.p, b10, hn, fun L ms a7 H7 hL hml hsm hper la7 ua7 hp7 kp7 => ?_⟩
      obtain ⟨us, vv, hpu, hpw⟩ := hper
      obtain ⟨hris, hnms⟩ := some_rises hsm hpu hpw h3.np
      have h37 := h36.but hp6 kp7
      have k7 := (k4.trans k46).trans kp7
      refine ⟨_, rfl, rfl, _, rfl, ?_⟩
      refine ite2 (fun g2 => ?_) (fun g2 => ?_)
      · refine ⟨_, rfl, _, rfl, _, rfl, _, rfl, L, _, rfl, .inl ⟨SqL.of hL, fun tt htt => ?_⟩⟩
        have st := Same.new (o := .tup (ms.map V.str)) htt
        have ew : word = "join" := by
          have := of_decide_eq_true g2
          injection this
        have hallN : (ms.map PyData.str).all nameD = true := by
          rw [List.all_map, List.all_eq_true]
          exact fun z hz => hnms z hz
        exact ⟨_, rfl, z5, fun t ht => fin _ [.tuple (ms.map PyData.str), .str land] _ a7 (.cons (.tup upd_same (by rw [List.length_map]; first | lia | omega) (read_strs fun z hz => by have := (nameB_len (hnms z hz)).2; first | lia | omega)) (.cons (nm_rd nland) .nil)) (by rw [ew]; exact .join nland hris (by first | lia | omega) (by first | lia | omega) hallN) (hp7.same st) (k7.same st) (by first | lia | omega) (by first | lia | omega) t ht⟩
      · refine ⟨_, rfl, L, rfl, ⟨_, SqL.of hL⟩, ?_⟩
        refine comp_list (K := K) (xs := ms.map V.str) (fun i ys σ' H' => Ex2 fun (a' : Int) (o : Option V) => All7 (σ' = [o, some (.ref lh), some (.ref p)]) (PenAt H' p c ns a') (KeepBut p H7 H') (a7 ≤ a') (a' ≤ a7 + 4 * i) (ys.length = i) (Ex1 fun (R : List P3) => All3 (RdVs false H' ys (R.map pD)) (R.map (·.1) = ms.take i) ((R.map pD).all partD = true)))
          ⟨a7, none, rfl, hp7, KeepBut.refl p H7, by first | lia | omega, by first | lia | omega, rfl, [], .nil, by simp, rfl⟩ (sizeLine_big (by rw [List.length_map]; first | lia | omega)) (fun i ys σ H p => by obtain ⟨_, _, _, _, _, _, _, e, _⟩ := p; first | lia | omega) (fun i ys σ H p => by obtain ⟨_, _, _, _, kk, _⟩ := p; exact SqL.of (lst_but hL hp7 kk)) ?_ ?_
        · rintro i x ys σ' H8 hx ⟨a8, o, rfl, hp8, k8, la8, ua8, hyl, R, rR, eR, aR⟩
          have hi : i < ms.length := by
            have := (List.getElem?_eq_some_iff.mp hx).1
            simpa using this
          have ex : x = V.str ms[i] := by
            rw [List.getElem?_map, List.getElem?_eq_getElem hi] at hx
            cases hx
            rfl
          subst ex
          have nmi := hnms _ (List.getElem_mem hi)
          dsimp only [gName]
          have hh8 := lst_but h37.h hp7 k8
          refine iteT ?_
          refine ⟨_, rfl, _, rfl, _, rfl, _, rfl, lh, _, rfl, .inl (SqL.of hh8), p, c, ns, a8, _, rfl, hp8, by first | lia | omega, by rw [List.length_map]; first | lia | omega, by rw [List.length_map]; first | lia | omega, fun r4 a9 H9 r40 r41 la9 ua9 hp9 kp9 => ?_⟩
          obtain ⟨v, hv, hat⟩ := atI_in (xs := hs.map V.str) (i := r4) r40 r41
          obtain ⟨hse, hhse, rfl⟩ := List.mem_map.mp hv
          have nhse := h3.nh.ok hse hhse
          refine ⟨lh, _, r4, _, rfl, rfl, SqL.of (lst_but hh8 hp8 kp9), hat, ?_⟩
          refine ⟨_, rfl, _, _, rfl, rfl, cp _ (by decide) (by decide), p, c, ns, a9, 1, 10000000, (by show [V.ref p, V.int 1, V.int ((10 : Int) ^ Int.toNat 7)] ++ [] = _; rw [p7]; rfl), hp9, by first | lia | omega, by decide, by decide, by first | lia | omega, fun n1 b1 G1 n10 n11 lb1 ub1 hpb kpb => ?_⟩
          refine ⟨z3, fun q1 hq1 => ?_⟩
          have sq1 := Same.new (o := .tup [V.str ms[i], .str hse, .int n1]) hq1
          refine ⟨b1, _, rfl, hpb.same sq1, ((k8.trans kp9).trans kpb).same sq1, by first | lia | omega, by first | lia | omega, by rw [List.length_append, hyl]; rfl, R ++ [(ms[i], hse, n1)], ?_, ?_, ?_⟩
          · rw [List.map_append]
            exact RdVs.app ((rds_but (rds_but rR hp8 kp9) hp9 kpb).same sq1) (.cons (.tup upd_same (by show 3 ≤ 1000; decide) (.cons (nm_rd nmi) (.cons (nm_rd nhse) (.cons (.int n1) .nil)))) .nil)
          · rw [List.map_append, eR, List.take_add_one, List.getElem?_eq_getElem hi]
            rfl
          · rw [List.map_append, List.all_append, aR]
            show (true && ((nameB ms[i] && nameB hse && decide (1 ≤ n1 ∧ n1 ≤ 10000000)) && true)) = true
            rw [nmi, nhse, decide_eq_true (show 1 ≤ n1 ∧ n1 ≤ 10000000 from ⟨n10, n11⟩)]
            rfl
        · rintro ys σ' H8 ⟨a8, o, rfl, hp8, k8, la8, ua8, hyl, R, rR, eR, aR⟩ D hD
          rw [List.length_map] at ua8
          have sD := Same.new (o := .lst ys) hD
          refine ⟨_, rfl, _, rfl, _, rfl, _, rfl, _, rfl, D, _, rfl, .inl ⟨SqL.of upd_same, fun tt htt => ?_⟩⟩
          have st := Same.new (o := .tup ys) htt
          have ew : word = "part" := by
            have h0 : "part" = word ∨ "join" = word := by simpa [inV, eqV] using g1
            have h1 : word = "part" ∨ word = "join" := h0.imp Eq.symm Eq.symm
            rcases h1 with h1 | h1
            · exact h1
            · exact absurd (decide_eq_true (by rw [h1])) g2
          rw [List.length_map, List.take_length] at eR
          have hRl : R.length = ms.length := by rw [← eR, List.length_map]
          have hRr : RiseP R := by
            have := of_decide_eq_true hris
            rw [← eR] at this
            exact (List.pairwise_map (f := fun x : P3 => x.1) (R := fun a b : Str => a.cps.toList < b.cps.toList)).mp this
          exact ⟨z5, fun t ht => fin _ [.str land, .tuple (R.map pD)] _ a8 (.cons (nm_rd nland) (.cons (.tup upd_same (by rw [hyl, List.length_map]; first | lia | omega) ((rR.same sD).same st)) .nil)) (by rw [ew]; exact .part nland hRr (by first | lia | omega) (by first | lia | omega) aR) ((hp8.same sD).same st) (((k7.trans k8).same sD).same st) (by first | lia | omega) (by first | lia | omega) t ht⟩
    · refine ⟨_, rfl, rfl, _, rfl, ?_⟩
      refine ite2 (fun g2 => ?_) (fun g2 => ?_)
      · have ew : word = "forfeit" := by
          have := of_decide_eq_true g2
          injection this
        exact ⟨_, rfl, _, rfl, _, rfl, _, rfl, _, rfl, z5, fun t ht => fin _ [.str land, .str house] _ a3 (.cons (nm_rd nland) (.cons (nm_rd nhouse) .nil)) (by rw [ew]; exact .forfeit nland nhouse) hp4 k4 (by first | lia | omega) (by first | lia | omega) t ht⟩
      · refine ⟨_, rfl, rfl, _, rfl, ?_⟩
        refine ite2 (fun g3 => ?_) (fun g3 => ?_)
        · refine ⟨_, rfl, _, rfl, _, rfl, _, rfl, _, rfl, _, _, rfl, rfl, cp _ (by decide) (by decide), p, c, ns, a3, 0, 10000000, (by show [V.ref p, V.int 0, V.int ((10 : Int) ^ Int.toNat 7)] ++ [] = _; rw [p7]; rfl), hp4, by first | lia | omega, by decide, by decide, by first | lia | omega, fun n1 b1 G1 n10 n11 lb1 ub1 hpb kpb => ?_⟩
          have ew : word = "measure" := by
            have := of_decide_eq_true g3
            injection this
          exact ⟨z5, fun t ht => fin _ [.str field, .int n1] _ b1 (.cons (nm_rd nfield) (.cons (.int n1) .nil)) (by rw [ew]; exact .measure nfield n10 n11) hpb (k4.trans kpb) (by first | lia | omega) (by first | lia | omega) t ht⟩
        · refine ⟨_, rfl, rfl, _, rfl, ?_⟩
          refine ite2 (fun g4 => ?_) (fun g4 => ?_)
          · refine ⟨_, rfl, _, rfl, _, rfl, _, rfl, _, rfl, _, rfl, _, _, rfl, rfl, _, rfl, _, rfl, lh, _, rfl, .inl (SqL.of h34.h), _, _, rfl, rfl, p, c, ns, a3, _, rfl, hp4, by first | lia | omega, by rw [List.length_map]; first | lia | omega, by rw [List.length_map]; first | lia | omega, fun r4 b1 G1 r40 r41 lb1 ub1 hpb kpb => ?_⟩
            have hh := lst_but h34.h hp4 kpb
            refine ⟨_, _, rfl, rfl, _, rfl, lh, _, rfl, .inl (SqL.of hh), _, _, rfl, rfl, by rw [List.length_map]; first | lia | omega, ?_⟩
            have e5 : ((hs.map V.str).length : Int) = 5 := by rw [List.length_map, b5]; rfl
            rw [e5] at r41
            obtain ⟨j4, ej4⟩ : ∃ j4 : Nat, ((j2 : Int) + 1 + r4) % ((hs.map V.str).length : Int) = j4 := ⟨(((j2 : Int) + 1 + r4) % ((hs.map V.str).length : Int)).toNat, by rw [e5]; first | lia | omega⟩
            have hj4 : j4 < 5 ∧ j4 ≠ j2 := by
              rw [e5] at ej4
              first | lia | omega
            obtain ⟨other, hot⟩ : ∃ y, hs[j4]? = some y := ⟨_, List.getElem?_eq_getElem (by first | lia | omega)⟩
            have nother := h3.nh.ok other (List.mem_of_getElem? hot)
            have hne : house ≠ other := fun z => by
              have hl2 : j2 < hs.length := by first | lia | omega
              have hl4 : j4 < hs.length := by first | lia | omega
              rw [List.getElem?_eq_getElem hl2] at hj2
              rw [List.getElem?_eq_getElem hl4] at hot
              injection hj2 with hj2
              injection hot with hot
              rw [← hj2, ← hot] at z
              exact hj4.2 ((List.getElem_inj h3.nh.nd).mp z).symm
            have hat4 : atI (hs.map V.str) ((j4 : Nat) : Int) = some (V.str other) := atI_nat (by rw [List.getElem?_map, hot]; rfl)
            rw [← ej4] at hat4
            have ew : word = "mend" := by
              have := of_decide_eq_true g4
              injection this
            refine ⟨lh, _, _, _, rfl, rfl, SqL.of hh, hat4, ?_⟩
            exact ⟨z5, fun t ht => fin _ [.str house, .str other] _ b1 (.cons (nm_rd nhouse) (.cons (nm_rd nother) .nil)) (by rw [ew]; exact .mend nhouse nother hne) hpb (k4.trans kpb) (by first | lia | omega) (by first | lia | omega) t ht⟩
          · refine ⟨_, rfl, rfl, _, rfl, ?_⟩
            refine ite2 (fun g5 => ?_) (fun g5 => ?_)
            · have ew : word = "alone" := by
                have := of_decide_eq_true g5
                injection this
              exact ⟨_, rfl, _, rfl, _, rfl, _, rfl, z4, fun t ht => fin _ [.str house] _ a3 (.cons (nm_rd nhouse) .nil) (by rw [ew]; exact .alone nhouse) hp4 k4 (by first | lia | omega) (by first | lia | omega) t ht⟩
            · refine ⟨_, rfl, _, _, rfl, rfl, cp _ (by decide) (by decide), _, _, rfl, rfl, p, c, ns, a3, 0, 9999999, (by show [V.ref p, V.int 0, V.int ((10 : Int) ^ Int.toNat 7 - 1)] ++ [] = _; rw [p7]; rfl), hp4, by first | lia | omega, by decide, by decide, by first | lia | omega, fun n1 b1 G1 n10 n11 lb1 ub1 hpb kpb => ?_⟩
              refine ⟨_, rfl, rfl, _, rfl, ?_⟩
              refine ite2 (fun g6 => ?_) (fun g6 => ?_)
              · have ew : word = "view" := by
                  have := of_decide_eq_true g6
                  injection this
                exact ⟨_, rfl, _, rfl, _, rfl, _, rfl, _, rfl, _, rfl, z6, fun t ht => fin _ [.str field, .int n1, .str house] _ b1 (.cons (nm_rd nfield) (.cons (.int n1) (.cons (nm_rd nhouse) .nil))) (by rw [ew]; exact .view nfield n10 n11 nhouse) hpb (k4.trans kpb) (by first | lia | omega) (by first | lia | omega) t ht⟩
              · refine ⟨_, rfl, _, rfl, _, rfl, _, rfl, _, rfl, _, rfl, _, _, rfl, rfl, cp _ (by decide) (by decide), p, c, ns, b1, 0, 1000000000, (by show [V.ref p, V.int 0, V.int ((10 : Int) ^ Int.toNat 9)] ++ [] = _; rw [p9]; rfl), hpb, by first | lia | omega, by decide, by decide, by first | lia | omega, fun n2 b2 G2 n20 n21 lb2 ub2 hpb2 kpb2 => ?_⟩
                refine ⟨_, rfl, _, _, rfl, rfl, cp _ (by decide) (by decide), p, c, ns, b2, 0, 1000000, (by show [V.ref p, V.int 0, V.int ((10 : Int) ^ Int.toNat 6)] ++ [] = _; rw [p6]; rfl), hpb2, by first | lia | omega, by decide, by decide, by first | lia | omega, fun n3 b3 G3 n30 n31 lb3 ub3 hpb3 kpb3 => ?_⟩
                have ew : word = "breach" := by
                  have ng : ∀ z : Str, ¬ decide (V.str word = V.str z) = true → word ≠ z := fun z hz e => hz (decide_eq_true (by rw [e]))
                  have hg1 : word ≠ "part" ∧ word ≠ "join" := by
                    constructor
                    · intro z; exact g1 (by rw [z]; rfl)
                    · intro z; exact g1 (by rw [z]; rfl)
                  have hm := hwd
                  simp only [words8, List.mem_cons, List.not_mem_nil, or_false] at hm
                  rcases hm with z | z | z | z | z | z | z | z
                  · exact absurd z hg1.1
                  · exact absurd z hg1.2
                  · exact absurd z (ng _ g2)
                  · exact absurd z (ng _ g3)
                  · exact absurd z (ng _ g4)
                  · exact absurd z (ng _ g5)
                  · exact z
                  · exact absurd z (ng _ g6)
                exact ⟨z7, fun t ht => fin _ [.str field, .int n1, .int n2, .int n3] _ b3 (.cons (nm_rd nfield) (.cons (.int n1) (.cons (.int n2) (.cons (.int n3) .nil)))) (by rw [ew]; exact .breach nfield n10 n11 n20 n21 n30 n31) hpb3 (((k4.trans kpb).trans kpb2).trans kpb3) (by first | lia | omega) (by first | lia | omega) t ht⟩
end
end K3

set_option linter.all false
set_option maxRecDepth 100000
set_option Elab.async false
set_option maxHeartbeats 8000000
namespace K3
open PySem L2
inductive I_spTurned (vs : List V) (H : Hp) (Q : VK) (u3_ : XK) : Prop
  | mk (p c : Addr) (ns : List Int) (a : Int) (l : Addr) (xs : List V) (q0 : vs = [.ref p, .ref l]) (q1 : PenAt H p c ns a) (q2 : a ≤ 800000) (q3 : H l = some (.tup xs)) (q4 : xs.length ≤ 6) (q5 : ∀ (q : Addr) (ys : List V) (a' : Int) (H' : Hp), H q = none → H' q = some (.lst ys) → ys.Perm xs → a ≤ a' → a' ≤ a + 6 → PenAt H' p c ns a' → KeepBut p H H' → Q (.ref q) H') : I_spTurned vs H Q u3_
noncomputable def spTurned : Sp := fun vs H Q u3_ => I_spTurned vs H Q u3_
section
variable {P : Program} {w : World} {K : PySem.W.Frag} {mg : Str → Option Value} {base : Heap}
theorem scTurned : FnScope ["_law_pen_here", "_law_some_here", "_law_left"] ["_law_pen_here", "_law_some_here"] (defScope sTurned) := ⟨rfl, rfl, rfl, by decide +kernel, rfl, by decide +kernel, by decide +kernel⟩
theorem ok_turned {f fT : Addr} {fd fdT : FuncData} (F : Fun K "_law_turned" "_law_turned" sTurned f fd) (hlist : mg "list" = none) (hrng : mg "range" = none) (hlen : mg "len" = none)
    (GT : FnOk P w K mg base CX0 1 fT fdT ["_law_pen_here", "_law_many"] spTake) (mT : mg "_law_take" = some (.ref fT)) (kT : PySem.W.keepIn K (.ref fT) = true) (bT : Binds K fdT ["_law_pen_here", "_law_many"] []) :
    FnOk P w K mg base CX0 2 f fd ["_law_pen_here", "_law_some_here"] spTurned := by
  refine F.ok scTurned (fun vs H Q E h => ?_) (fun cdv A outer s H vs Q E hr h => ?_)
  · obtain ⟨p, c, ns, a, l, xs, rfl, _⟩ := h
    rfl
  · obtain ⟨p, c, ns, a, l, xs, rfl, hp, ha, hl, hxl, k⟩ := h
    refine ⟨_, pss_cons (ps_set (i := 2) scTurned.nd rfl (Or.inr rfl) (pe_callTy call_list_of (by rfl) hlist (by kernel_rfl) (pa_c (pv 1) pa_nil)))
      (pss_one (ps_ret (pe_comp (N := ["_law_k", "_law_left", "_law_pen_here"]) (src := [none, some 2, some 0]) (osc := defScope sTurned) (oN := ["_law_pen_here", "_law_some_here", "_law_left"]) ⟨by rfl, by decide +kernel, by decide +kernel, by decide +kernel, rfl, by rfl⟩
          (pi_range1 rfl hrng (pa_c (pe_callB call_len_seq (by rfl) hlen PySem.boot_len (pa_c (pv 1) pa_nil)) pa_nil))
          fun cl s H fp pins C => ⟨pg_name (i := 0) (show (["_law_k", "_law_left", "_law_pen_here"] : List Str).Nodup by decide +kernel) rfl (Or.inl rfl), pts_nil, pe_bmK (K := K) PySem.F.plainAttrs_list PySem.F.slot_list_pop PySem.F.type_list_pop mt_popAt (pv 1) (pa_c (pe_call GT hr rfl mT kT bT .nil pass0 (pa_c (pv 2) (pa_c (pe_callB (r := r_call_len_seq K) call_len_seq (by rfl) hlen PySem.boot_len (pa_c (pv 1) pa_nil)) pa_nil))) pa_nil)⟩))), ?_⟩
    refine ⟨_, rfl, l, _, rfl, .inr (SqT.of hl), fun L hL => ?_⟩
    have s0 := Same.new (o := .lst xs) hL
    have nLp : L ≠ p := by
      obtain ⟨z, _, e⟩ := hp.ob
      exact (ne_of_none e hL).symm
    have nLc : L ≠ c := (ne_of_none hp.ce hL).symm
    refine ⟨_, rfl, l, _, rfl, .inr (SqT.of (s0 _ _ hl)), xs.length, rfl, by first | lia | omega, by first | lia | omega, ?_⟩
    refine comp_range (fun i ys σ' H' => Ex3 fun (a' : Int) (vs : List V) (o : Option V) => All9 (σ' = [o, some (.ref L), some (.ref p)]) (PenAt H' p c ns a') (KeepBut p H H') (a ≤ a') (a' ≤ a + i) (ys.length = i) (H' L = some (.lst vs)) (vs.length + i = xs.length) ((ys ++ vs).Perm xs))
      ⟨a, xs, none, rfl, hp.same s0, Same.but s0, by first | lia | omega, by first | lia | omega, rfl, upd_same, by first | lia | omega, List.Perm.refl _⟩ (sizeLine_big (by first | lia | omega)) (fun i ys σ H p => by obtain ⟨_, _, _, _, _, _, _, _, e, _⟩ := p; first | lia | omega) ?_ ?_
    · rintro i ys σ' H1 hi ⟨a1, vs, o, rfl, hp1, kp1, la1, ua1, hul, hL1, hvl, hpe⟩
      dsimp only [gName]
      refine iteT ?_
      refine ⟨_, rfl, .inl ⟨rfl, _, SqL.of hL1⟩, _, rfl, _, rfl, L, _, rfl, .inl (SqL.of hL1), p, c, ns, a1, _, rfl, hp1, by first | lia | omega, by first | lia | omega, by first | lia | omega, fun r1 a2 H2 r10 r11 la2 ua2 hp2 kp2 => ?_⟩
      obtain ⟨j, rfl⟩ : ∃ j : Nat, r1 = j := ⟨r1.toNat, by first | lia | omega⟩
      have hL2 := lst_but hL1 hp1 kp2
      obtain ⟨y, hy⟩ : ∃ y, vs[j]? = some y := ⟨_, List.getElem?_eq_getElem (by first | lia | omega)⟩
      have hsx : seqIndex? (j : Int) vs.length = some j := by
        unfold seqIndex?
        simp
        first | lia | omega
      refine ⟨L, _, _, j, y, rfl, rfl, hL2, by first | lia | omega, by first | lia | omega, hsx, hy, ?_⟩
      refine ⟨a2, vs.eraseIdx j, _, rfl, ?_, ?_, by first | lia | omega, by first | lia | omega, by rw [List.length_append, hul]; rfl, upd_same, ?_, ?_⟩
      · obtain ⟨⟨z, hz, e⟩, ce, ge, sm⟩ := hp2
        exact ⟨⟨z, hz, by rw [upd_ne nLp.symm]; exact e⟩, by rw [upd_ne nLc.symm]; exact ce, ge, sm⟩
      · intro b o e ne
        rw [upd_ne (ne_of_none e hL)]
        exact (kp1.trans kp2) b o e ne
      · rw [List.length_eraseIdx_of_lt (by first | lia | omega)]
        first | lia | omega
      · rw [List.append_assoc]
        exact (List.Perm.append_left ys (erase_perm vs j y hy)).trans hpe
    · rintro ys σ' H1 ⟨a1, vs, o, rfl, hp1, kp1, la1, ua1, hul, hL1, hvl, hpe⟩ D hD
      have sD := Same.new (o := .lst ys) hD
      have hv0 : vs = [] := List.eq_nil_of_length_eq_zero (by have := Int.toNat_natCast xs.length; first | lia | omega)
      rw [hv0, List.append_nil] at hpe
      have hHD : H D = none := by
        cases e : H D with
        | none => rfl
        | some x =>
          by_cases z : D = p
          · obtain ⟨y, _, e2⟩ := hp1.ob
            rw [z] at hD
            rw [hD] at e2
            cases e2
          · exact absurd (kp1 D x e z) (by rw [hD]; simp)
      exact k D ys a1 _ hHD upd_same hpe (by first | lia | omega) (by have := Int.toNat_natCast xs.length; first | lia | omega) (hp1.same sD) (kp1.same sD)
end
end K3

set_option linter.all false
set_option maxRecDepth 100000
set_option Elab.async false
set_option maxHeartbeats 8000000
namespace K3
open PySem L2
noncomputable def hid (F : Addr) (H : Hp) : Hp := fun a => if a = F then none else H a
theorem hid_upd {F : Addr} {H : Hp} {o : HO} : hid F (upd H F o) = hid F H := by
  funext a
  unfold hid
  by_cases h : a = F
  · rw [if_pos h, if_pos h]
  · rw [if_neg h, if_neg h, upd_ne h]
theorem hid_some {F a : Addr} {H : Hp} {o : HO} (h : hid F H a = some o) : a ≠ F ∧ H a = some o := by
  unfold hid at h
  by_cases z : a = F
  · rw [if_pos z] at h; cases h
  · rw [if_neg z] at h; exact ⟨z, h⟩
theorem hid_at {F a : Addr} {H : Hp} {o : HO} (n : a ≠ F) (h : H a = some o) : hid F H a = some o := by
  unfold hid
  rw [if_neg n]
  exact h
theorem hid_keep {F : Addr} {H H' : Hp} {m : Bool} {xs : List V} {ds : List PyData} (r : RdVs m (hid F H) xs ds) (k : ∀ a o, a ≠ F → H a = some o → (∀ kv r, o ≠ .dK (kv :: r)) → H' a = some o) : RdVs m (hid F H') xs ds :=
  r.keep fun a o e n => by
    obtain ⟨z, e'⟩ := hid_some e
    exact hid_at z (k a o z e' n)
theorem hid_out {F : Addr} {H : Hp} {m : Bool} {xs : List V} {ds : List PyData} (r : RdVs m (hid F H) xs ds) : RdVs m H xs ds := r.keep fun a o e _ => (hid_some e).2
theorem hid_in {F : Addr} {H H' : Hp} {m : Bool} {xs : List V} {ds : List PyData} (r : RdVs m H xs ds) (hF : H F = none) (s : Same H H') : RdVs m (hid F H') xs ds :=
  r.keep fun a o e _ => hid_at (fun z => by rw [z, hF] at e; cases e) (s a o e)
theorem RdVs.set {m : Bool} {H : Hp} : ∀ {xs : List V} {ds : List PyData} {j : Nat} {x : V} {d : PyData}, RdVs m H xs ds → RdV m H x d → RdVs m H (xs.set j x) (ds.set j d)
  | _, _, _, _, _, .nil, _ => .nil
  | _, _, 0, _, _, .cons a r, h => .cons h r
  | _, _, j + 1, _, _, .cons a r, h => .cons a (RdVs.set r h)
theorem perm_rds {m : Bool} {H : Hp} : ∀ {ys xs : List V}, ys.Perm xs → ∀ {ds : List PyData}, RdVs m H xs ds → ∃ es : List PyData, es.Perm ds ∧ RdVs m H ys es := by
  intro ys xs hp
  induction hp with
  | nil => intro ds r; exact ⟨ds, .refl _, r⟩
  | cons a _ ih =>
    intro ds r
    cases r with
    | cons r1 r2 =>
      obtain ⟨es, h1, h2⟩ := ih r2
      exact ⟨_ :: es, h1.cons _, .cons r1 h2⟩
  | swap a b l =>
    intro ds r
    cases r with
    | cons r1 r2 =>
      cases r2 with
      | cons r3 r4 => exact ⟨_ :: _ :: _, .swap _ _ _, .cons r3 (.cons r1 r4)⟩
  | trans _ _ ih1 ih2 =>
    intro ds r
    obtain ⟨es, h1, h2⟩ := ih2 r
    obtain ⟨fs, h3, h4⟩ := ih1 h2
    exact ⟨fs, h3.trans h1, h4⟩
theorem perm_of_map {α : Type} (f : α → PyData) : ∀ {l l' : List PyData}, l.Perm l' → ∀ {R : List α}, l' = R.map f → ∃ T : List α, T.Perm R ∧ l = T.map f := by
  intro l l' hp
  induction hp with
  | nil => intro R e; exact ⟨R, .refl _, e⟩
  | cons a _ ih =>
    intro R e
    cases R with
    | nil => cases e
    | cons x R =>
      injection e with e1 e2
      obtain ⟨T, h1, h2⟩ := ih e2
      exact ⟨x :: T, h1.cons _, by rw [e1, h2]; rfl⟩
  | swap a b l =>
    intro R e
    cases R with
    | nil => cases e
    | cons x R =>
      cases R with
      | nil => injection e with e1 e2; cases e2
      | cons y R =>
        injection e with e1 e2
        injection e2 with e2 e3
        exact ⟨y :: x :: R, .swap _ _ _, by rw [e1, e2, e3]; rfl⟩
  | trans _ _ ih1 ih2 =>
    intro R e
    obtain ⟨T, h1, h2⟩ := ih2 e
    obtain ⟨U, h3, h4⟩ := ih1 h2
    exact ⟨U, h3.trans h1, h4⟩
inductive ItemTo : PyData → PyData → Prop
  | same {d : PyData} (h : isSeq d = false) : ItemTo d d
  | lst {es gs : List PyData} (hp : (gs.map (tupD 1)).Perm es) : ItemTo (.tuple es) (.list gs)
  | tup {es gs : List PyData} (hp : (gs.map (tupD 1)).Perm es) : ItemTo (.tuple es) (.tuple gs)
theorem tupD_id {d : PyData} (h : isSeq d = false) (n : Nat) : tupD n d = d := by
  cases n with
  | zero => rfl
  | succ n =>
    cases d with
    | list ds => simp [isSeq] at h
    | tuple ds => simp [isSeq] at h
    | _ => rfl
theorem ItemTo.two {d g : PyData} (h : ItemTo d g) : tupD 2 g = d ∨ ∃ es ls, d = .tuple es ∧ tupD 2 g = .tuple ls ∧ ls.Perm es := by
  cases h with
  | same h => exact .inl (tupD_id h 2)
  | @lst es gs hp => exact .inr ⟨es, gs.map (tupD 1), rfl, rfl, hp⟩
  | @tup es gs hp => exact .inr ⟨es, gs.map (tupD 1), rfl, rfl, hp⟩
inductive All2 : List PyData → List PyData → Prop
  | nil : All2 [] []
  | cons {d g : PyData} {ds gs : List PyData} (h : ItemTo d g) (r : All2 ds gs) : All2 (d :: ds) (g :: gs)
theorem All2.of : ∀ {ds gs : List PyData}, ds.length = gs.length → (∀ (j : Nat) (d g : PyData), ds[j]? = some d → gs[j]? = some g → ItemTo d g) → All2 ds gs
  | [], [], _, _ => .nil
  | d :: ds, g :: gs, hl, h => .cons (h 0 d g rfl rfl) (All2.of (by simpa using hl) fun j a b ha hb => h (j + 1) a b (by simpa using ha) (by simpa using hb))
theorem All2.one {d : PyData} {ds gs : List PyData} (h : All2 (d :: ds) gs) (hd : isSeq d = false) : ∃ gs', gs.map (tupD 2) = d :: gs'.map (tupD 2) ∧ All2 ds gs' := by
  cases h with
  | @cons _ g _ gs' h r =>
    refine ⟨gs', ?_, r⟩
    rw [List.map_cons]
    rcases h.two with e | ⟨es, ls, e, _⟩
    · rw [e]
    · rw [e] at hd; simp [isSeq] at hd
theorem All2.tup {es ds gs : List PyData} (h : All2 (.tuple es :: ds) gs) : ∃ ls gs', gs.map (tupD 2) = .tuple ls :: gs'.map (tupD 2) ∧ ls.Perm es ∧ All2 ds gs' := by
  cases h with
  | @cons _ g _ gs' h r =>
    cases h with
    | same h => simp [isSeq] at h
    | @lst _ gg hp => exact ⟨gg.map (tupD 1), gs', rfl, hp, r⟩
    | @tup _ gg hp => exact ⟨gg.map (tupD 1), gs', rfl, hp, r⟩
theorem All2.end {gs : List PyData} (h : All2 [] gs) : gs.map (tupD 2) = [] := by cases h; rfl
theorem listed_ord {word name : Str} {day : Int} {ds gs : List PyData} (h : RowS word ds) (ha : All2 (.str word :: .str name :: .int day :: ds) gs) : OrdTo (.tuple (gs.map (tupD 2))) (rowDat word name day ds) := by
  obtain ⟨g1, e1, h1⟩ := ha.one rfl
  obtain ⟨g2, e2, h2⟩ := h1.one rfl
  obtain ⟨g3, e3, h3⟩ := h2.one rfl
  rw [e1, e2, e3]
  cases h with
  | @part land R hl hr h2' h6 hall =>
    obtain ⟨g4, e4, h4⟩ := h3.one rfl
    obtain ⟨ls, g5, e5, hp, h5⟩ := h4.tup
    rw [e4, e5, h5.end]
    obtain ⟨T, hT, rfl⟩ := perm_of_map pD hp rfl
    have hTl := hT.length_eq
    refine .part hT hr (by first | lia | omega) (by first | lia | omega) ?_
    rw [List.all_eq_true] at hall ⊢
    exact fun x hx => hall x ((hT.map pD).mem_iff.mp hx)
  | @join land R hl hr h2' h6 hall =>
    obtain ⟨ls, g4, e4, hp, h4⟩ := h3.tup
    obtain ⟨g5, e5, h5⟩ := h4.one rfl
    rw [e4, e5, h5.end]
    obtain ⟨T, hT, rfl⟩ := perm_of_map PyData.str hp rfl
    have hTl := hT.length_eq
    refine .join hT hr (by first | lia | omega) ?_
    rw [List.all_eq_true] at hall ⊢
    exact fun x hx => hall x ((hT.map PyData.str).mem_iff.mp hx)
  | @forfeit land house hl hh =>
    obtain ⟨g4, e4, h4⟩ := h3.one rfl
    obtain ⟨g5, e5, h5⟩ := h4.one rfl
    rw [e4, e5, h5.end]
    exact .other (by decide) (by decide)
  | @measure field n hf h0 h1' =>
    obtain ⟨g4, e4, h4⟩ := h3.one rfl
    obtain ⟨g5, e5, h5⟩ := h4.one rfl
    rw [e4, e5, h5.end]
    exact .other (by decide) (by decide)
  | @mend house other hh ho hne =>
    obtain ⟨g4, e4, h4⟩ := h3.one rfl
    obtain ⟨g5, e5, h5⟩ := h4.one rfl
    rw [e4, e5, h5.end]
    exact .other (by decide) (by decide)
  | @alone house hh =>
    obtain ⟨g4, e4, h4⟩ := h3.one rfl
    rw [e4, h4.end]
    exact .short (by simp)
  | @breach field n1 n2 n3 hf _ _ _ _ _ _ =>
    obtain ⟨g4, e4, h4⟩ := h3.one rfl
    obtain ⟨g5, e5, h5⟩ := h4.one rfl
    obtain ⟨g6, e6, h6⟩ := h5.one rfl
    obtain ⟨g7, e7, h7⟩ := h6.one rfl
    rw [e4, e5, e6, e7, h7.end]
    exact .short (by simp)
  | @view field house n1 hf _ _ hh =>
    obtain ⟨g4, e4, h4⟩ := h3.one rfl
    obtain ⟨g5, e5, h5⟩ := h4.one rfl
    obtain ⟨g6, e6, h6⟩ := h5.one rfl
    rw [e4, e5, e6, h6.end]
    exact .short (by simp)
noncomputable def smallD : PyData → Bool
  | .str _ => true
  | .tuple es => es.all fun e => !isSeq e
  | _ => false
theorem RowS.inner {word : Str} {ds : List PyData} (h : RowS word ds) : ∀ d ∈ ds, isSeq d = false ∨ ∃ es, d = .tuple es ∧ es.length ≤ 6 ∧ es.all smallD = true := by
  intro d hd
  cases h with
  | @part land R hl hr h2' h6 hall =>
    simp only [List.mem_cons, List.not_mem_nil, or_false] at hd
    rcases hd with rfl | rfl
    · exact .inl rfl
    · refine .inr ⟨_, rfl, by rw [List.length_map]; exact h6, ?_⟩
      rw [List.all_map, List.all_eq_true]
      exact fun x _ => rfl
  | @join land R hl hr h2' h6 hall =>
    simp only [List.mem_cons, List.not_mem_nil, or_false] at hd
    rcases hd with rfl | rfl
    · refine .inr ⟨_, rfl, by rw [List.length_map]; exact h6, ?_⟩
      rw [List.all_map, List.all_eq_true]
      exact fun x _ => rfl
    · exact .inl rfl
  | forfeit hl hh =>
    simp only [List.mem_cons, List.not_mem_nil, or_false] at hd
    rcases hd with rfl | rfl <;> exact .inl rfl
  | measure hf h0 h1' =>
    simp only [List.mem_cons, List.not_mem_nil, or_false] at hd
    rcases hd with rfl | rfl <;> exact .inl rfl
  | mend hh ho hne =>
    simp only [List.mem_cons, List.not_mem_nil, or_false] at hd
    rcases hd with rfl | rfl <;> exact .inl rfl
  | alone hh =>
    simp only [List.mem_cons, List.not_mem_nil, or_false] at hd
    rcases hd with rfl; exact .inl rfl
  | breach hf _ _ _ _ _ _ =>
    simp only [List.mem_cons, List.not_mem_nil, or_false] at hd
    rcases hd with rfl | rfl | rfl | rfl <;> exact .inl rfl
  | view hf _ _ hh =>
    simp only [List.mem_cons, List.not_mem_nil, or_false] at hd
    rcases hd with rfl | rfl | rfl <;> exact .inl rfl
theorem small_one {e : PyData} (h : smallD e = true) : tupD 1 e = e ∧ ∀ ds, e = .tuple ds → tupD 1 (.list ds) = e := by
  cases e with
  | str z => exact ⟨rfl, fun ds z => nomatch z⟩
  | tuple ds =>
    have h0 : ds.map (tupD 0) = ds := by
      have : ∀ l : List PyData, l.map (tupD 0) = l := fun l => by
        induction l with
        | nil => rfl
        | cons a l ih => rw [List.map_cons, ih]; rfl
      exact this ds
    refine ⟨?_, fun ds' z => ?_⟩
    · show PyData.tuple (ds.map (tupD 0)) = _
      rw [h0]
    · cases z
      show PyData.tuple (ds.map (tupD 0)) = _
      rw [h0]
  | _ => simp [smallD] at h
noncomputable def SmallOk (e : PyData) : Prop := (isSeq e = false ∧ OkD 1002 0 e) ∨ ∃ is : List PyData, e = .tuple is ∧ is.length ≤ 3 ∧ ∀ i ∈ is, OkD 1002 0 i
theorem map_tup0 : ∀ l : List PyData, l.map (tupD 0) = l
  | [] => rfl
  | a :: l => by rw [List.map_cons, map_tup0 l]; rfl
theorem tup1_ok {g : PyData} (h : SmallOk (tupD 1 g)) : OkD 3015 1 g := by
  have go : ∀ is : List PyData, SmallOk (.tuple is) → is.length ≤ 3 ∧ ∀ i ∈ is, OkD 1002 0 i := fun is z => by
    rcases z with ⟨z, _⟩ | ⟨is', z, h1, h2⟩
    · simp [isSeq] at z
    · cases z; exact ⟨h1, h2⟩
  cases g with
  | list is =>
    have h' : SmallOk (.tuple (is.map (tupD 0))) := h
    rw [map_tup0] at h'
    obtain ⟨h1, h2⟩ := go is h'
    exact OkD.list h2 h1
  | tuple is =>
    have h' : SmallOk (.tuple (is.map (tupD 0))) := h
    rw [map_tup0] at h'
    obtain ⟨h1, h2⟩ := go is h'
    exact OkD.tuple h2 h1
  | _ =>
    rcases h with ⟨_, z⟩ | ⟨_, z, _⟩
    · exact OkD.mono z (by decide) (by decide)
    · cases z
theorem RowS.ok {word : Str} {ds : List PyData} (h : RowS word ds) : ∀ d ∈ ds, (isSeq d = false ∧ OkD 1002 0 d) ∨ ∃ es, d = .tuple es ∧ es.length ≤ 6 ∧ ∀ e ∈ es, SmallOk e := by
  have nm : ∀ {z : Str}, nameB z = true → isSeq (PyData.str z) = false ∧ OkD 1002 0 (.str z) := fun h => ⟨rfl, OkD.name h⟩
  have it : ∀ {i : Int}, 0 ≤ i → i ≤ 1000000000 → isSeq (PyData.int i) = false ∧ OkD 1002 0 (.int i) := fun h0 h1 => ⟨rfl, OkD.int h0 (Int.lt_of_le_of_lt h1 (by decide))⟩
  intro d hd
  cases h with
  | @part land R hl hr h2' h6 hall =>
    simp only [List.mem_cons, List.not_mem_nil, or_false] at hd
    rcases hd with rfl | rfl
    · exact .inl (nm hl)
    · refine .inr ⟨_, rfl, by rw [List.length_map]; exact h6, fun e he => ?_⟩
      obtain ⟨x, hx, rfl⟩ := List.mem_map.mp he
      have hp := List.all_eq_true.mp hall _ he
      have hp' : (nameB x.1 && nameB x.2.1 && decide (1 ≤ x.2.2 ∧ x.2.2 ≤ 10000000)) = true := hp
      rw [Bool.and_eq_true, Bool.and_eq_true] at hp'
      have hb := of_decide_eq_true hp'.2
      refine .inr ⟨_, rfl, by simp, fun i hi => ?_⟩
      simp only [List.mem_cons, List.not_mem_nil, or_false] at hi
      rcases hi with rfl | rfl | rfl
      · exact (nm hp'.1.1).2
      · exact (nm hp'.1.2).2
      · exact (it (by first | lia | omega) (by first | lia | omega)).2
  | @join land R hl hr h2' h6 hall =>
    simp only [List.mem_cons, List.not_mem_nil, or_false] at hd
    rcases hd with rfl | rfl
    · refine .inr ⟨_, rfl, by rw [List.length_map]; exact h6, fun e he => ?_⟩
      obtain ⟨x, hx, rfl⟩ := List.mem_map.mp he
      exact .inl (nm (List.all_eq_true.mp hall _ he))
    · exact .inl (nm hl)
  | forfeit hl hh =>
    simp only [List.mem_cons, List.not_mem_nil, or_false] at hd
    rcases hd with rfl | rfl
    · exact .inl (nm hl)
    · exact .inl (nm hh)
  | measure hf h0 h1' =>
    simp only [List.mem_cons, List.not_mem_nil, or_false] at hd
    rcases hd with rfl | rfl
    · exact .inl (nm hf)
    · exact .inl (it h0 (by first | lia | omega))
  | mend hh ho hne =>
    simp only [List.mem_cons, List.not_mem_nil, or_false] at hd
    rcases hd with rfl | rfl
    · exact .inl (nm hh)
    · exact .inl (nm ho)
  | alone hh =>
    simp only [List.mem_cons, List.not_mem_nil, or_false] at hd
    rcases hd with rfl
    exact .inl (nm hh)
  | breach hf h10 h11 h20 h21 h30 h31 =>
    simp only [List.mem_cons, List.not_mem_nil, or_false] at hd
    rcases hd with rfl | rfl | rfl | rfl
    · exact .inl (nm hf)
    · exact .inl (it h10 (by first | lia | omega))
    · exact .inl (it h20 (by first | lia | omega))
    · exact .inl (it h30 (by first | lia | omega))
  | view hf h10 h11 hh =>
    simp only [List.mem_cons, List.not_mem_nil, or_false] at hd
    rcases hd with rfl | rfl | rfl
    · exact .inl (nm hf)
    · exact .inl (it h10 (by first | lia | omega))
    · exact .inl (nm hh)
theorem All2.mem : ∀ {ds gs : List PyData} {g : PyData}, All2 ds gs → g ∈ gs → ∃ d ∈ ds, ItemTo d g
  | _, _, _, .nil, h => by simp at h
  | _, _, _, .cons h r, hg => by
    rcases List.mem_cons.mp hg with rfl | z
    · exact ⟨_, by simp, h⟩
    · obtain ⟨d, hd, hi⟩ := All2.mem r z
      exact ⟨d, by simp [hd], hi⟩
theorem All2.len : ∀ {ds gs : List PyData}, All2 ds gs → gs.length = ds.length
  | _, _, .nil => rfl
  | _, _, .cons _ r => by rw [List.length_cons, List.length_cons, All2.len r]
theorem words_name {w : Str} (h : w ∈ words8) : nameB w = true := by
  have : ∀ w ∈ words8, nameB w = true := by decide +kernel
  exact this w h
theorem RowS.word {word : Str} {ds : List PyData} (h : RowS word ds) : word ∈ words8 := by
  cases h <;> decide
theorem RowS.len {word : Str} {ds : List PyData} (h : RowS word ds) : ds.length ≤ 4 := by
  cases h <;> simp
theorem row_ok {word name : Str} {day : Int} {ds : List PyData} (h : RowS word ds) (hn : nameB name = true) (h0 : 0 ≤ day) (h1 : day ≤ 9999) : ∀ d ∈ (PyData.str word :: PyData.str name :: PyData.int day :: ds), (isSeq d = false ∧ OkD 1002 0 d) ∨ ∃ es, d = .tuple es ∧ es.length ≤ 6 ∧ ∀ e ∈ es, SmallOk e := fun d hd => by
  simp only [List.mem_cons] at hd
  rcases hd with rfl | rfl | rfl | hd
  · exact .inl ⟨rfl, OkD.name (words_name h.word)⟩
  · exact .inl ⟨rfl, OkD.name hn⟩
  · exact .inl ⟨rfl, OkD.int h0 (Int.lt_of_le_of_lt h1 (by decide))⟩
  · exact h.ok d hd
theorem listed_ok {dF gs : List PyData} (h : ∀ d ∈ dF, (isSeq d = false ∧ OkD 1002 0 d) ∨ ∃ es, d = .tuple es ∧ es.length ≤ 6 ∧ ∀ e ∈ es, SmallOk e) (ha : All2 dF gs) (h7 : dF.length ≤ 7) : OkD 126752 3 (.list gs) ∧ OkD 126752 3 (.tuple gs) := by
  have hl := ha.len
  have each : ∀ g ∈ gs, OkD 18105 2 g := fun g hg => by
    obtain ⟨d, hd, hi⟩ := ha.mem hg
    have many : ∀ {es gg : List PyData}, PyData.tuple es ∈ dF → (gg.map (tupD 1)).Perm es → gg.length ≤ 6 ∧ ∀ x ∈ gg, OkD 3015 1 x := fun {es gg} hm hp => by
      rcases h _ hm with ⟨z, _⟩ | ⟨es', z, h6, hs⟩
      · simp [isSeq] at z
      · cases z
        have hpl := hp.length_eq
        rw [List.length_map] at hpl
        exact ⟨by first | lia | omega, fun x hx => tup1_ok (hs _ (hp.mem_iff.mp (List.mem_map.mpr ⟨x, hx, rfl⟩)))⟩
    cases hi with
    | same hq =>
      rcases h _ hd with ⟨_, z⟩ | ⟨es, rfl, _⟩
      · exact OkD.mono z (by decide) (by decide)
      · simp [isSeq] at hq
    | lst hp =>
      obtain ⟨m1, m2⟩ := many hd hp
      exact OkD.list m2 m1
    | tup hp =>
      obtain ⟨m1, m2⟩ := many hd hp
      exact OkD.tuple m2 m1
  exact ⟨OkD.list (n := 7) each (by first | lia | omega), OkD.tuple (n := 7) each (by first | lia | omega)⟩
theorem All2.refl_of : ∀ {dF : List PyData}, (∀ d ∈ dF, isSeq d = false ∨ ∃ es, d = .tuple es ∧ es.all smallD = true) → All2 dF dF
  | [], _ => .nil
  | d :: dF, h => by
    refine .cons ?_ (All2.refl_of fun x hx => h x (by simp [hx]))
    rcases h d (by simp) with z | ⟨es, rfl, hs⟩
    · exact .same z
    · refine .tup ?_
      have : es.map (tupD 1) = es := by
        have : ∀ l : List PyData, l.all smallD = true → l.map (tupD 1) = l := fun l => by
          induction l with
          | nil => intro _; rfl
          | cons a l ih =>
            intro z
            rw [List.all_cons, Bool.and_eq_true] at z
            rw [List.map_cons, (small_one z.1).1, ih z.2]
        exact this es hs
      rw [this]
end K3

set_option linter.all false
set_option maxRecDepth 100000
set_option Elab.async false
set_option maxHeartbeats 8000000
namespace K3
open PySem L2
inductive I_ListN (H H' : Hp) (x : V) : Prop
  | mk (q : _) (xs : _) (q0 : x = .ref q) (q1 : H q = none) (q2 : (H' q = some (.lst xs) ∨ H' q = some (.tup xs))) (q3 : ∀ b, V.ref b ∈ xs → ∀ ys, H' b = some (.lst ys) → H b = none ∧ b ≠ q) : I_ListN H H' x
noncomputable def ListN (H H' : Hp) (x : V) : Prop := I_ListN H H' x
inductive I_spListed (vs : List V) (H : Hp) (Q : VK) (u3_ : XK) : Prop
  | mk (p c : Addr) (ns : List Int) (a : Int) (tr : Addr) (word name : Str) (day : Int) (ds : List PyData) (q0 : vs = [.ref p, .ref tr]) (q1 : PenAt H p c ns a) (q2 : a ≤ 700000) (q3 : RdV false H (.ref tr) (rowDat word name day ds)) (q4 : RowS word ds) (q5 : nameB name = true) (q6 : 0 ≤ day) (q7 : day ≤ 9999) (q8 : ∀ (x : V) (d2 : PyData) (a' : Int) (H' : Hp), RdV true H' x d2 → OkD 126752 3 d2 → OrdTo (tupD 3 d2) (rowDat word name day ds) → ListN H H' x → a ≤ a' → a' ≤ a + 200 → PenAt H' p c ns a' → KeepBut p H H' → Q x H') : I_spListed vs H Q u3_
noncomputable def spListed : Sp := fun vs H Q u3_ => I_spListed vs H Q u3_
theorem pen_upd {H : Hp} {p c b : Addr} {ns : List Int} {a : Int} {o : HO} (hp : PenAt H p c ns a) (h1 : b ≠ p) (h2 : b ≠ c) : PenAt (upd H b o) p c ns a := by
  obtain ⟨⟨z, hz, e⟩, ce, ge, sm⟩ := hp
  exact ⟨⟨z, hz, by rw [upd_ne h1.symm]; exact e⟩, by rw [upd_ne h2.symm]; exact ce, ge, sm⟩
theorem pen_none {H : Hp} {p c b : Addr} {ns : List Int} {a : Int} (hp : PenAt H p c ns a) (h : H b = none) : b ≠ p ∧ b ≠ c := by
  refine ⟨?_, (ne_of_none hp.ce h).symm⟩
  obtain ⟨z, _, e⟩ := hp.ob
  exact (ne_of_none e h).symm
theorem but_none {H H' : Hp} {p c b : Addr} {ns : List Int} {a : Int} (k : KeepBut p H H') (hp : PenAt H' p c ns a) (h : H' b = none) : H b = none := by
  cases e : H b with
  | none => rfl
  | some x => exact absurd (k b x e (pen_none hp h).1) (by rw [h]; simp)
theorem nolist {H : Hp} {b : Addr} : ∀ {xs : List V} {ds : List PyData}, RdVs false H xs ds → V.ref b ∈ xs → ∃ o, H b = some o ∧ ∀ ys, o ≠ .lst ys
  | _, _, .nil, h => by simp at h
  | _, _, .cons a r, h => by
    rcases List.mem_cons.mp h with z | z
    · cases a with
      | lst hm e hl r => cases hm
      | tup e hl r => cases z; exact ⟨_, e, fun ys z => nomatch z⟩
      | dct hm e => cases z; exact ⟨_, e, fun ys z => nomatch z⟩
      | _ => cases z
    · exact nolist r z
theorem nodict_parts : ∀ R : List P3, PyData.hasDictAll (R.map pD) = false
  | [] => rfl
  | x :: R => by
    show ((pD x).hasDict || PyData.hasDictAll (R.map pD)) = false
    rw [nodict_parts R]
    rfl
theorem nodict_strs : ∀ R : List Str, PyData.hasDictAll (R.map PyData.str) = false
  | [] => rfl
  | x :: R => by
    show ((PyData.str x).hasDict || PyData.hasDictAll (R.map PyData.str)) = false
    rw [nodict_strs R]
    rfl
theorem RowS.nodict {word : Str} {ds : List PyData} (h : RowS word ds) : PyData.hasDictAll ds = false := by
  cases h with
  | @part land R _ _ _ _ _ =>
    show (false || (PyData.hasDictAll (R.map pD) || false)) = false
    rw [nodict_parts]
    rfl
  | @join land R _ _ _ _ _ =>
    show (PyData.hasDictAll (R.map PyData.str) || (false || false)) = false
    rw [nodict_strs]
    rfl
  | _ => rfl
theorem hid_mid {F : Addr} {H H' : Hp} {m : Bool} {x : V} {d : PyData} (r : RdV m H x d) (hF : H F = none) (k : ∀ a o, H a = some o → (∀ kv r, o ≠ .dK (kv :: r)) → H' a = some o) : RdV m (hid F H') x d :=
  r.keep fun a o e n => hid_at (fun z => by rw [z, hF] at e; cases e) (k a o e n)
theorem mem_rd {H : Hp} {b : Addr} : ∀ {xs : List V} {ds : List PyData}, RdVs true H xs ds → V.ref b ∈ xs → ∃ o, H b = some o ∧ ∀ kv r, o ≠ .dK (kv :: r)
  | _, _, .nil, h => by simp at h
  | _, _, .cons a r, h => by
    rcases List.mem_cons.mp h with z | z
    · cases a with
      | lst hm e hl r => cases z; exact ⟨_, e, fun _ _ z => nomatch z⟩
      | tup e hl r => cases z; exact ⟨_, e, fun _ _ z => nomatch z⟩
      | dct hm e => cases hm
      | _ => cases z
    · exact mem_rd r z
theorem upd_but {H0 H : Hp} {p b : Addr} {o : HO} (k : KeepBut p H0 H) (h : H0 b = none) : KeepBut p H0 (upd H b o) := fun a u e ne => by
  rw [upd_ne (ne_of_none e h)]
  exact k a u e ne
section
variable {P : Program} {w : World} {K : PySem.W.Frag} {mg : Str → Option Value} {base : Heap}
theorem scListed : FnScope ["_law_pen_here", "_law_row_here", "_law_found", "_law_at", "_law_some_here"] ["_law_pen_here", "_law_row_here"] (defScope sListed) := ⟨rfl, rfl, rfl, by decide +kernel, rfl, by decide +kernel, by decide +kernel⟩
theorem ok_listed {f fT fU : Addr} {fd fdT fdU : FuncData} (F : Fun K "_law_listed" "_law_listed" sListed f fd) (T : Txt K mg) (hlist : mg "list" = none) (hrng : mg "range" = none)
    (GT : FnOk P w K mg base CX0 1 fT fdT ["_law_pen_here", "_law_many"] spTake) (mT : mg "_law_take" = some (.ref fT)) (kT : PySem.W.keepIn K (.ref fT) = true) (bT : Binds K fdT ["_law_pen_here", "_law_many"] [])
    (GU : FnOk P w K mg base CX0 2 fU fdU ["_law_pen_here", "_law_some_here"] spTurned) (mU : mg "_law_turned" = some (.ref fU)) (kU : PySem.W.keepIn K (.ref fU) = true) (bU : Binds K fdU ["_law_pen_here", "_law_some_here"] []) :
    FnOk P w K mg base CX0 3 f fd ["_law_pen_here", "_law_row_here"] spListed := by
  refine F.ok scListed (fun vs H Q E h => ?_) (fun cdv A outer s H vs Q E hr h => ?_)
  · obtain ⟨p, c, ns, a, tr, word, name, day, ds, rfl, _⟩ := h
    rfl
  · obtain ⟨p, c, ns, a, tr, word, name, day, ds, rfl, hp, ha, hrd, hS, hnm, hday0, hday1, k⟩ := h
    have hr1 : Room 1 _ := hr.mono (by decide)
    refine ⟨_, pss_cons (ps_set (i := 2) scListed.nd rfl (Or.inl rfl) (pe_callTy call_list_of (by rfl) hlist (by kernel_rfl) (pa_c (pv 1) pa_nil)))
      (pss_cons (ps_for PassesOwn.never rfl (pi_range1 rfl hrng (pa_c (pe_callB call_len_seq (by rfl) T.len PySem.boot_len (pa_c (pv 1) pa_nil)) pa_nil)) (pg_name (i := 3) scListed.nd rfl (Or.inl rfl))
        (pss_one (ps_if (pt_val (pe_callB call_isinst (by rfl) T.isi (by kernel_rfl) (pa_c (pe_ix ix_tup (pv 1) (pv 3) (fun _ _ => rfl)) (pa_c (pe_bltn (v := .ty "tuple") (by rfl) T.tuple (by kernel_rfl) rfl) pa_nil))))
          (pss_cons (ps_set (i := 4) scListed.nd rfl (Or.inl rfl) (pe_call GU hr rfl mU kU bU .nil pass0 (pa_c (pv 0) (pa_c (pe_ix ix_tup (pv 1) (pv 3) (fun _ _ => rfl)) pa_nil))))
          (pss_cons (ps_setComp (i := 4) (N := ["_law_one", "_law_pen_here"]) (src := [none, some 0]) (osc := defScope sListed) (oN := ["_law_pen_here", "_law_row_here", "_law_found", "_law_at", "_law_some_here"]) ⟨by rfl, by decide +kernel, by decide +kernel, by decide +kernel, rfl, by rfl⟩ scListed.nd rfl
              (pi_list (pv 4))
              fun cl s H fp pins C => ⟨pg_name (i := 0) (show (["_law_one", "_law_pen_here"] : List Str).Nodup by decide +kernel) rfl (Or.inl rfl), pts_nil, pe_ifExp (PW.pt (pw_and (pt_val (pe_callB (r := r_call_isinst K) call_isinst (by rfl) T.isi (by kernel_rfl) (pa_c (pv 0) (pa_c (pe_bltn (v := .ty "tuple") (by rfl) T.tuple (by kernel_rfl) rfl) pa_nil)))) (pw_and1 (pt_cmpR op_eq (pe_call GT hr1 rfl mT kT bT .nil pass0 (pa_c (pv 1) (pa_c pe_int pa_nil))) pe_int (nomark _))))) (pe_callTy (r := r_call_list_of K) call_list_of (by rfl) hlist (by kernel_rfl) (pa_c (pv 0) pa_nil)) (pv 0)⟩)
          (pss_one (ps_asg (pe_ix ix_list (pe_lst (pa_c (pv 4) (pa_c (pe_callTy call_tuple_of (by rfl) T.tuple (by kernel_rfl) (pa_c (pv 4) pa_nil)) pa_nil))) (pe_call GT hr1 rfl mT kT bT .nil pass0 (pa_c (pv 0) (pa_c pe_int pa_nil))) (fun _ _ => rfl)) (pg_sub (pv 2) (pv 3) set_list))))) pss_nil)))
      (pss_one (ps_ret (pe_ix ix_list (pe_lst (pa_c (pv 2) (pa_c (pe_callTy call_tuple_of (by rfl) T.tuple (by kernel_rfl) (pa_c (pv 2) pa_nil)) pa_nil))) (pe_call GT hr1 rfl mT kT bT .nil pass0 (pa_c (pv 0) (pa_c pe_int pa_nil))) (fun _ _ => rfl))))), ?_⟩
    have hrd' : RdV false H (.ref tr) (.tuple (.str word :: .str name :: .int day :: ds)) := hrd
    have hin : ∀ d ∈ (PyData.str word :: PyData.str name :: PyData.int day :: ds), isSeq d = false ∨ ∃ es, d = .tuple es ∧ es.length ≤ 6 ∧ es.all smallD = true := fun d hd => by
      simp only [List.mem_cons] at hd
      rcases hd with rfl | rfl | rfl | hd
      · exact .inl rfl
      · exact .inl rfl
      · exact .inl rfl
      · exact hS.inner d hd
    have hnd : PyData.hasDictAll (PyData.str word :: PyData.str name :: PyData.int day :: ds) = false := by
      show (false || (false || (false || PyData.hasDictAll ds))) = false
      rw [hS.nodict]
      rfl
    have hd7 : (PyData.str word :: PyData.str name :: PyData.int day :: ds).length ≤ 7 := by
      have := hS.len
      simp only [List.length_cons]
      first | lia | omega
    have hfin : ∀ gs, All2 (PyData.str word :: PyData.str name :: PyData.int day :: ds) gs → OrdTo (.tuple (gs.map (tupD 2))) (rowDat word name day ds) := fun gs h => listed_ord hS h
    have hok : ∀ gs, All2 (PyData.str word :: PyData.str name :: PyData.int day :: ds) gs → OkD 126752 3 (.list gs) ∧ OkD 126752 3 (.tuple gs) := fun gs h => listed_ok (row_ok hS hnm hday0 hday1) h hd7
    generalize (PyData.str word :: PyData.str name :: PyData.int day :: ds) = dF at hrd' hin hnd hd7 hfin hok
    generalize rowDat word name day ds = dR at hfin k
    clear hrd hS
    cases hrd' with
    | @tup _ xs _ e hl r =>
    have hlen := r.len
    have r3 := r.flip hnd true
    refine ⟨_, rfl, tr, _, rfl, .inr (SqT.of e), fun F hF => ?_⟩
    have s0 := Same.new (o := .lst xs) hF
    obtain ⟨nFp, nFc⟩ := pen_none hp hF
    refine ⟨_, rfl, tr, _, rfl, .inr (SqT.of (s0 _ _ e)), xs.length, rfl, by first | lia | omega, by first | lia | omega, for_range (n := (xs.length : Int).toNat) (fun i σ H' => Ex5 fun (o3 o4 : Option V) (a' : Int) (fs : List V) (gs : List PyData) => All10 (σ = [some (.ref p), some (.ref tr), some (.ref F), o3, o4]) (PenAt H' p c ns a') (a ≤ a') (a' ≤ a + 20 * i) (KeepBut p H H') (H' F = some (.lst fs)) (RdVs true (hid F H') fs gs) (gs.length = dF.length) ((∀ (j : Nat) (d g : PyData), dF[j]? = some d → gs[j]? = some g → if j < i then ItemTo d g else g = d)) (∀ b, V.ref b ∈ fs → ∀ ys, H' b = some (.lst ys) → H b = none ∧ b ≠ F))
      ⟨_, _, a, xs, dF, rfl, hp.same s0, by first | lia | omega, by first | lia | omega, Same.but s0, upd_same, hid_in r3 hF s0, rfl, (fun j d g h1 h2 => by
        rw [if_neg (Nat.not_lt_zero j)]
        rw [h1] at h2
        cases h2
        rfl), fun b hb ys h => by
          obtain ⟨o, ho, hno⟩ := nolist r hb
          rw [upd_ne (ne_of_none ho hF), ho] at h
          cases h
          exact absurd rfl (hno ys)⟩ ?_ ?_⟩
    · rintro i σ H1 hi ⟨o3, o4, a1, fs, gs, rfl, hp1, la1, ua1, k1, hF1, rg, hgl, hit, hnew⟩
      dsimp only [gName]
      have hi' : i < xs.length := by have := Int.toNat_natCast xs.length; first | lia | omega
      have e1 := k1 _ _ e (pen_ne hp e (fun _ _ z => nomatch z))
      obtain ⟨y, hy⟩ : ∃ y, xs[i]? = some y := ⟨_, List.getElem?_eq_getElem hi'⟩
      have hat : atI xs ((0 : Int) + (i : Nat)) = some y := by
        rw [Int.zero_add]
        exact atI_nat hy
      obtain ⟨d, hd, rd⟩ := r3.at hy
      have rd1 := rd_but rd hp k1
      have hdm : d ∈ dF := List.mem_of_getElem? hd
      refine ⟨_, rfl, _, rfl, tr, _, _, _, rfl, rfl, SqT.of e1, hat, ?_⟩
      refine ⟨_, "tuple", _, _, rfl, ty_of rd1, kit_tup d, _, rfl, ?_⟩
      refine ite2 (fun g => ?_) (fun g => ?_)
      · obtain ⟨es, rfl, hes6, hsm⟩ : ∃ es, d = .tuple es ∧ es.length ≤ 6 ∧ es.all smallD = true := by
          rcases hin d hdm with z | z
          · cases d with
            | tuple es => simp [isSeq] at z
            | _ => simp [isTup] at g
          · exact z
        cases rd with
        | @tup b zs _ eb hzl rz =>
        have hzlen := rz.len
        have eb1 := k1 _ _ eb (pen_ne hp eb (fun _ _ z => nomatch z))
        refine ⟨_, rfl, _, rfl, _, rfl, tr, _, _, _, rfl, rfl, SqT.of e1, hat, p, c, ns, a1, b, zs, rfl, hp1, by first | lia | omega, eb1, by first | lia | omega, fun q ys a2 H2 hq hq2 hpm la2 ua2 hp2 kp2 => ?_⟩
        obtain ⟨es', hes', rys⟩ := perm_rds hpm rz
        have hyl := rys.len
        have hys6 : ys.length ≤ 6 := by rw [hpm.length_eq]; first | lia | omega
        have hsm' : ∀ e ∈ es', smallD e = true := fun e he => List.all_eq_true.mp hsm e (hes'.mem_iff.mp he)
        have k2 := k1.trans kp2
        have hF2 := lst_but hF1 hp1 kp2
        refine ⟨_, rfl, q, rfl, ⟨_, SqL.of hq2⟩, ?_⟩
        refine comp_list (K := K) (xs := ys) (fun i2 us σ' H' => Ex3 fun (a' : Int) (o : Option V) (gs1 : List PyData) => All8 (σ' = [o, some (.ref p)]) (PenAt H' p c ns a') (KeepBut p H2 H') (a2 ≤ a') (a' ≤ a2 + i2) (RdVs true (hid F H') us gs1) (gs1.map (tupD 1) = es'.take i2) (us.length = i2))
          ⟨a2, none, [], rfl, hp2, KeepBut.refl p H2, by first | lia | omega, by first | lia | omega, .nil, by simp, rfl⟩ (sizeLine_big (by first | lia | omega)) (fun i ys σ H p => by obtain ⟨_, _, _, _, _, _, _, _, _, _, e⟩ := p; first | lia | omega) (fun i us σ H p => by obtain ⟨_, _, _, _, _, kk, _⟩ := p; exact SqL.of (lst_but hq2 hp2 kk)) ?_ ?_
        · rintro i2 x us σ' H3 hx ⟨a3, o, gs1, rfl, hp3, k3, la3, ua3, ru, eg, hul⟩
          dsimp only [gName]
          have hi2 : i2 < ys.length := (List.getElem?_eq_some_iff.mp hx).1
          obtain ⟨e2, he2, rx⟩ := rys.at hx
          have hs2 := hsm' e2 (List.mem_of_getElem? he2)
          obtain ⟨t1, t2⟩ := small_one hs2
          have kA : KeepBut p H H3 := k2.trans k3
          have rx3 := rd_but rx hp kA
          have hF3 := lst_but hF2 hp2 k3
          have etk : ∀ g, tupD 1 g = e2 → (gs1 ++ [g]).map (tupD 1) = es'.take (i2 + 1) := fun g hg => by
            rw [List.map_append, eg, List.take_add_one, he2]
            show _ ++ [tupD 1 g] = _
            rw [hg]
            rfl
          -- the item as it is
          have asis : ∀ (H4 : Hp) (a4 : Int), PenAt H4 p c ns a4 → KeepBut p H3 H4 → a3 ≤ a4 → a4 ≤ a3 + 1 → Ex3 fun (a' : Int) (o : Option V) (gs1 : List PyData) => All8 (([some x, some (.ref p)] : St) = [o, some (.ref p)]) (PenAt H4 p c ns a') (KeepBut p H2 H4) (a2 ≤ a') (a' ≤ a2 + ((i2 + 1 : Nat) : Int)) (RdVs true (hid F H4) (us ++ [x]) gs1) (gs1.map (tupD 1) = es'.take (i2 + 1)) ((us ++ [x]).length = i2 + 1) := fun H4 a4 hp4 k4 l4 u4 =>
            ⟨a4, _, gs1 ++ [e2], rfl, hp4, k3.trans k4, by first | lia | omega, by first | lia | omega, RdVs.app (hid_keep ru fun a o _ e n => k4 a o e (pen_ne hp3 e n)) (.cons (hid_mid rx hF fun a o e n => (kA.trans k4) a o e (pen_ne hp e n)) .nil), etk e2 t1, by rw [List.length_append, hul]; rfl⟩
          refine iteT ?_
          refine ⟨_, rfl, _, "tuple", _, _, rfl, ty_of rx3, kit_tup e2, _, rfl, ?_⟩
          refine ite2 (fun g2 => ?_) (fun g2 => ?_)
          · refine ⟨_, rfl, p, c, ns, a3, _, rfl, hp3, by first | lia | omega, by decide, by decide +kernel, fun r4 a4 H4 r40 r41 la4 ua4 hp4 kp4 => ?_⟩
            refine ⟨rfl, _, rfl, ?_⟩
            refine ite2 (fun g3 => ?_) (fun g3 => ?_)
            · obtain ⟨ds2, rfl⟩ : ∃ ds2, e2 = .tuple ds2 := by
                cases e2 with
                | tuple z => exact ⟨z, rfl⟩
                | _ => simp [isTup] at g2
              cases rx with
              | @tup b2 zs2 _ eb2 hz2 rz2 =>
              have eb4 := (kA.trans kp4) _ _ eb2 (pen_ne hp eb2 (fun _ _ z => nomatch z))
              refine ⟨_, rfl, b2, zs2, rfl, .inr (SqT.of eb4), fun L1 hL1 => ?_⟩
              have sL1 := Same.new (o := .lst zs2) hL1
              have nLF : L1 ≠ F := (ne_of_none (lst_but hF3 hp3 kp4) hL1).symm
              refine ⟨a4, _, gs1 ++ [.list ds2], rfl, hp4.same sL1, (k3.trans kp4).same sL1, by first | lia | omega, by first | lia | omega, RdVs.app (hid_keep ru fun a o _ e n => sL1 _ _ (kp4 a o e (pen_ne hp3 e n))) (.cons (.lst rfl (hid_at nLF upd_same) hz2 (rz2.keep fun a o e n => hid_at (fun z => by rw [z, hF] at e; cases e) (sL1 _ _ ((kA.trans kp4) a o e (pen_ne hp e n))))) .nil), etk _ (t2 ds2 rfl), by rw [List.length_append, hul]; rfl⟩
            · exact ⟨_, rfl, asis H4 a4 hp4 kp4 la4 ua4⟩
          · exact ⟨_, rfl, asis H3 a3 hp3 (KeepBut.refl p H3) (by first | lia | omega) (by first | lia | omega)⟩
        · rintro us σ' H3 ⟨a3, o, gs1, rfl, hp3, k3, la3, ua3, ru, eg, hul⟩ D hD
          have hF3 := lst_but hF2 hp2 k3
          have kA : KeepBut p H H3 := k2.trans k3
          have nDF : D ≠ F := (ne_of_none hF3 hD).symm
          have hHD : H D = none := but_none kA hp3 hD
          have sD := Same.new (o := .lst us) hD
          refine ⟨_, rfl, _, rfl, D, _, rfl, .inl ⟨SqL.of upd_same, fun T2 hT2 => ?_⟩⟩
          have sT := Same.new (o := .tup us) hT2
          refine ⟨sizeLine_big (by show 2 ≤ 1000000; decide), fun W hW => ?_⟩
          have sW := Same.new (o := .lst [V.ref D, .ref T2]) hW
          have sA := (sD.trans sT).trans sW
          refine ⟨_, rfl, p, c, ns, a3, _, rfl, hp3.same sA, by first | lia | omega, by decide, by decide +kernel, fun r5 a5 H5 r50 r51 la5 ua5 hp5 kp5 => ?_⟩
          obtain ⟨v, hv, hat5⟩ := atI_in (xs := [V.ref D, .ref T2]) (i := r5) r50 (by show r5 < 2; first | lia | omega)
          have k35 : KeepBut p H3 H5 := (Same.but sA).trans kp5
          have hpA := hp3.same sA
          have hD5 : H5 D = some (.lst us) := lst_but (sW _ _ (sT _ _ upd_same)) hpA kp5
          have hT5 : H5 T2 = some (.tup us) := tup_but (sW _ _ upd_same) hpA kp5
          have hW5 : H5 W = some (.lst [V.ref D, .ref T2]) := lst_but upd_same hpA kp5
          have hF5 := lst_but hF3 hp3 k35
          have nTF : T2 ≠ F := (ne_of_none (sD _ _ hF3) hT2).symm
          have ru5 : RdVs true (hid F H5) us gs1 := hid_keep ru fun a o _ e n => k35 a o e (pen_ne hp3 e n)
          have rg5 : RdVs true (hid F H5) fs gs := hid_keep rg fun a o _ e n => (kp2.trans (k3.trans k35)) a o e (pen_ne hp1 e n)
          have hpe : (gs1.map (tupD 1)).Perm es := by
            rw [eg, List.take_of_length_le (by first | lia | omega)]
            exact hes'
          have hul6 : us.length ≤ 1000 := by first | lia | omega
          obtain ⟨g2, rv, hg2, hvn⟩ : ∃ g2, RdV true (hid F H5) v g2 ∧ ItemTo (.tuple es) g2 ∧ ∀ b ys, v = .ref b → H5 b = some (.lst ys) → H b = none ∧ b ≠ F := by
            simp only [List.mem_cons, List.not_mem_nil, or_false] at hv
            rcases hv with rfl | rfl
            · exact ⟨.list gs1, .lst rfl (hid_at nDF hD5) hul6 ru5, .lst hpe, fun b ys z _ => by cases z; exact ⟨hHD, nDF⟩⟩
            · exact ⟨.tuple gs1, .tup (hid_at nTF hT5) hul6 ru5, .tup hpe, fun b ys z y => by cases z; rw [hT5] at y; cases y⟩
          have hfl : fs.length = dF.length := by rw [rg.len, hgl]
          have hix : ixN fs.length ((0 : Int) + (i : Nat)) = some i := by
            unfold ixN
            rw [Int.zero_add, if_pos (by first | lia | omega), if_pos (by first | lia | omega)]
            simp
          refine ⟨W, _, r5, _, rfl, rfl, SqL.of hW5, hat5, ?_⟩
          refine ⟨_, rfl, _, rfl, F, fs, _, i, rfl, rfl, hF5, hix, ?_⟩
          refine ⟨_, _, a5, fs.set i v, gs.set i g2, rfl, pen_upd hp5 nFp nFc, by first | lia | omega, by first | lia | omega, upd_but (kA.trans k35) hF, upd_same, (by rw [hid_upd]; exact RdVs.set rg5 rv), by rw [List.length_set]; exact hgl, fun j d' g' h1 h2 => ?_, fun b hb ys hby => ?_⟩
          · by_cases hji : j = i
            · subst hji
              rw [if_pos (Nat.lt_succ_self _)]
              rw [hd] at h1
              cases h1
              rw [List.getElem?_set_self (by first | lia | omega)] at h2
              cases h2
              exact hg2
            · rw [List.getElem?_set_ne (fun z => hji z.symm)] at h2
              have := hit j d' g' h1 h2
              by_cases hlt : j < i
              · rw [if_pos hlt] at this
                rw [if_pos (by first | lia | omega)]
                exact this
              · rw [if_neg hlt] at this
                rw [if_neg (by first | lia | omega)]
                exact this
          · have hbF : b ≠ F := by
              rcases List.mem_or_eq_of_mem_set hb with z | z
              · obtain ⟨o, ho, _⟩ := mem_rd rg5 z
                exact (hid_some ho).1
              · subst z
                cases rv with
                | lst hm e hl r => exact (hid_some e).1
                | tup e hl r => exact (hid_some e).1
                | dct hm e => cases hm
            rw [upd_ne hbF] at hby
            rcases List.mem_or_eq_of_mem_set hb with z | z
            · obtain ⟨o, ho, hno⟩ := mem_rd rg z
              have ho1 := (hid_some ho).2
              have ho5 := (kp2.trans (k3.trans k35)) b o ho1 (pen_ne hp1 ho1 hno)
              rw [hby] at ho5
              cases ho5
              exact hnew b z ys ho1
            · exact hvn b ys z.symm hby
      · have hsq : isSeq d = false := by
          rcases hin d hdm with z | ⟨es, rfl, _⟩
          · exact z
          · exact absurd rfl g
        refine ⟨_, _, a1, fs, gs, rfl, hp1, la1, by first | lia | omega, k1, hF1, rg, hgl, fun j d' g' h1 h2 => ?_, hnew⟩
        have := hit j d' g' h1 h2
        by_cases hji : j = i
        · subst hji
          rw [if_pos (Nat.lt_succ_self _)]
          rw [if_neg (Nat.lt_irrefl _)] at this
          rw [hd] at h1
          cases h1
          rw [this]
          exact .same hsq
        · by_cases hlt : j < i
          · rw [if_pos hlt] at this
            rw [if_pos (by first | lia | omega)]
            exact this
          · rw [if_neg hlt] at this
            rw [if_neg (by first | lia | omega)]
            exact this
    · rintro σ H1 ⟨o3, o4, a1, fs, gs, rfl, hp1, la1, ua1, k1, hF1, rg, hgl, hit, hnew⟩
      have hnn := Int.toNat_natCast xs.length
      have hfl : fs.length = dF.length := by rw [rg.len, hgl]
      have hall : All2 dF gs := All2.of (by first | lia | omega) fun j d g h1 h2 => by
        have hj := (List.getElem?_eq_some_iff.mp h1).1
        have := hit j d g h1 h2
        rw [if_pos (by first | lia | omega)] at this
        exact this
      refine ⟨_, rfl, _, rfl, F, _, rfl, .inl ⟨SqL.of hF1, fun T2 hT2 => ?_⟩⟩
      have sT := Same.new (o := .tup fs) hT2
      refine ⟨sizeLine_big (by show 2 ≤ 1000000; decide), fun W hW => ?_⟩
      have sW := Same.new (o := .lst [V.ref F, .ref T2]) hW
      have sA := sT.trans sW
      have hpA := hp1.same sA
      refine ⟨_, rfl, p, c, ns, a1, _, rfl, hpA, by first | lia | omega, by decide, by decide +kernel, fun r5 a5 H5 r50 r51 la5 ua5 hp5 kp5 => ?_⟩
      obtain ⟨v, hv, hat5⟩ := atI_in (xs := [V.ref F, .ref T2]) (i := r5) r50 (by show r5 < 2; first | lia | omega)
      have k15 : KeepBut p H1 H5 := (Same.but sA).trans kp5
      have hW5 : H5 W = some (.lst [V.ref F, .ref T2]) := lst_but upd_same hpA kp5
      have hF5 := lst_but hF1 hp1 k15
      have hT5 : H5 T2 = some (.tup fs) := tup_but (sW _ _ upd_same) hpA kp5
      have rg5 : RdVs true H5 fs gs := hid_out (hid_keep rg fun a o _ e n => k15 a o e (pen_ne hp1 e n))
      have hHT : H T2 = none := but_none k1 hp1 hT2
      have old : ∀ b, V.ref b ∈ fs → ∀ ys, H5 b = some (.lst ys) → H b = none ∧ b ≠ F := fun b hb ys hby => by
        obtain ⟨o, ho, hno⟩ := mem_rd rg hb
        have ho1 := (hid_some ho).2
        have ho5 := k15 b o ho1 (pen_ne hp1 ho1 hno)
        rw [hby] at ho5
        cases ho5
        exact hnew b hb ys ho1
      refine ⟨W, _, r5, _, rfl, rfl, SqL.of hW5, hat5, ?_⟩
      simp only [List.mem_cons, List.not_mem_nil, or_false] at hv
      rcases hv with rfl | rfl
      · exact k _ (.list gs) a5 H5 (.lst rfl hF5 (by first | lia | omega) rg5) (hok gs hall).1 (hfin gs hall) ⟨F, fs, rfl, hF, .inl hF5, old⟩ (by first | lia | omega) (by first | lia | omega) hp5 (k1.trans k15)
      · refine k _ (.tuple gs) a5 H5 (.tup hT5 (by first | lia | omega) rg5) (hok gs hall).2 (hfin gs hall) ⟨T2, fs, rfl, hHT, .inr hT5, fun b hb ys hby => ⟨(old b hb ys hby).1, fun z => ?_⟩⟩ (by first | lia | omega) (by first | lia | omega) hp5 (k1.trans k15)
        rw [z, hT5] at hby
        cases hby
end
end K3

set_option linter.all false
set_option maxRecDepth 100000
set_option Elab.async false
set_option maxHeartbeats 8000000
namespace K3
open PySem L2
mutual
inductive PlainD : PyData → Prop
  | non : PlainD .none
  | bl (b : Bool) : PlainD (.bool b)
  | int (i : Int) : PlainD (.int i)
  | str (z : Str) : PlainD (.str z)
  | tup {ds : List PyData} (h : PlainDs ds) : PlainD (.tuple ds)
inductive PlainDs : List PyData → Prop
  | nil : PlainDs []
  | cons {d : PyData} {ds : List PyData} (a : PlainD d) (r : PlainDs ds) : PlainDs (d :: ds)
end
theorem RdV.unl {H : Hp} {x : V} {d : PyData} (h : RdV true H x d) (hp : PlainD d) : RdV false H x d :=
  RdV.rec (m := true) (H := H) (motive_1 := fun x d _ => PlainD d → RdV false H x d) (motive_2 := fun xs ds _ => PlainDs ds → RdVs false H xs ds) (fun _ => .non) (fun b _ => .bl b) (fun i _ => .int i) (fun z h _ => .str z h) (fun _ _ _ _ _ h => nomatch h) (fun e hl _ ih h => by cases h with | tup h => exact .tup e hl (ih h)) (fun hm _ _ => nomatch hm) (fun _ => .nil) (fun _ _ a r h => by cases h with | cons b s => exact .cons (a b) (r s)) h hp
theorem plain_parts : ∀ R : List P3, PlainDs (R.map pD)
  | [] => .nil
  | x :: R => .cons (.tup (.cons (.str _) (.cons (.str _) (.cons (.int _) .nil)))) (plain_parts R)
theorem plain_strs : ∀ R : List Str, PlainDs (R.map PyData.str)
  | [] => .nil
  | x :: R => .cons (.str _) (plain_strs R)
theorem RowS.plain {word : Str} {ds : List PyData} (h : RowS word ds) (name : Str) (day : Int) : PlainD (rowDat word name day ds) := by
  refine .tup (.cons (.str _) (.cons (.str _) (.cons (.int _) ?_)))
  cases h with
  | @part land R _ _ _ _ _ => exact .cons (.str _) (.cons (.tup (plain_parts R)) .nil)
  | @join land R _ _ _ _ _ => exact .cons (.tup (plain_strs R)) (.cons (.str _) .nil)
  | forfeit _ _ => exact .cons (.str _) (.cons (.str _) .nil)
  | measure _ _ _ => exact .cons (.str _) (.cons (.int _) .nil)
  | mend _ _ _ => exact .cons (.str _) (.cons (.str _) .nil)
  | alone _ => exact .cons (.str _) .nil
  | breach _ _ _ _ _ _ _ => exact .cons (.str _) (.cons (.int _) (.cons (.int _) (.cons (.int _) .nil)))
  | view _ _ _ _ => exact .cons (.str _) (.cons (.int _) (.cons (.str _) .nil))
noncomputable def Sh (H : Hp) (x : V) : Prop := (∃ d, isSeq d = false ∧ ∀ H', RdV true H' x d) ∨ (∃ c ys, x = .ref c ∧ H c = some (.lst ys)) ∨ ∃ c ys, x = .ref c ∧ H c = some (.tup ys)
theorem Sh.of {H : Hp} {x : V} {d : PyData} (h : RdV true H x d) : Sh H x := by
  cases h with
  | non => exact .inl ⟨_, rfl, fun _ => .non⟩
  | bl b => exact .inl ⟨_, rfl, fun _ => .bl b⟩
  | int i => exact .inl ⟨_, rfl, fun _ => .int i⟩
  | str z hz => exact .inl ⟨_, rfl, fun _ => .str z hz⟩
  | lst hm e hl r => exact .inr (.inl ⟨_, _, rfl, e⟩)
  | tup e hl r => exact .inr (.inr ⟨_, _, rfl, e⟩)
  | dct hm e => cases hm
theorem Sh.all {H : Hp} : ∀ {xs : List V} {ds : List PyData}, RdVs true H xs ds → ∀ x ∈ xs, Sh H x
  | _, _, .nil, x, h => by simp at h
  | _, _, .cons a r, x, h => by
    rcases List.mem_cons.mp h with rfl | z
    · exact Sh.of a
    · exact Sh.all r x z
theorem Sh.clear {H : Hp} {x : V} {b : Addr} {ys : List V} (h : Sh H x) (hb : H b = some (.lst ys)) : Sh (upd H b (.lst [])) x := by
  rcases h with h | ⟨c, zs, rfl, hc⟩ | ⟨c, zs, rfl, hc⟩
  · exact .inl h
  · by_cases e : c = b
    · exact .inr (.inl ⟨c, [], rfl, by rw [e]; exact upd_same⟩)
    · exact .inr (.inl ⟨c, zs, rfl, by rw [upd_ne e]; exact hc⟩)
  · exact .inr (.inr ⟨c, zs, rfl, by rw [upd_ne (fun e => by rw [e, hb] at hc; cases hc)]; exact hc⟩)
theorem Sh.ty {K : PySem.W.Frag} {H : Hp} {x : V} (h : Sh H x) : ∃ t b, TyOf K H x t ∧ PySem.W.kitOne K t (.type "list") = some b ∧ (b = true → ∃ c ys, x = .ref c ∧ H c = some (.lst ys)) := by
  rcases h with ⟨d, hd, h⟩ | ⟨c, zs, rfl, hc⟩ | ⟨c, zs, rfl, hc⟩
  · exact ⟨_, _, ty_of (h H), kit_lst d, fun z => by cases d <;> simp [isLst, isSeq] at z hd⟩
  · exact ⟨_, _, .lst hc, kit_lst (.list []), fun _ => ⟨c, zs, rfl, hc⟩⟩
  · exact ⟨_, _, .tup hc, kit_lst (.tuple []), fun z => by simp [isLst] at z⟩
theorem rd_clear {H : Hp} {x : V} {d : PyData} {b : Addr} {ys : List V} (h : RdV false H x d) (hb : H b = some (.lst ys)) : RdV false (upd H b (.lst [])) x d :=
  h.keepF fun a o e _ n => by
    rw [upd_ne (fun z => by rw [z, hb] at e; cases e; exact n ys rfl)]
    exact e
inductive I_spMade (vs : List V) (H : Hp) (Q : VK) (u3_ : XK) : Prop
  | mk (p c : Addr) (ns : List Int) (a : Int) (tr : Addr) (word name : Str) (day : Int) (ds : List PyData) (q0 : vs = [.ref p, .ref tr]) (q1 : PenAt H p c ns a) (q2 : a ≤ 600000) (q3 : RdV false H (.ref tr) (rowDat word name day ds)) (q4 : RowS word ds) (q5 : nameB name = true) (q6 : 0 ≤ day) (q7 : day ≤ 9999) (q8 : ∀ (a' : Int) (H' : Hp), a ≤ a' → a' ≤ a + 400 → PenAt H' p c ns a' → KeepBut p H H' → Q (.bl true) H') : I_spMade vs H Q u3_
noncomputable def spMade : Sp := fun vs H Q u3_ => I_spMade vs H Q u3_
section
variable {P : Program} {w : World} {K : PySem.W.Frag} {mg : Str → Option Value} {base : Heap}
theorem scMade : FnScope ["_law_pen_here", "_law_row_here", "_law_turn", "_law_thing", "_law_kept", "_law_found", "_law_part"] ["_law_pen_here", "_law_row_here"] (defScope sMade) := ⟨rfl, rfl, rfl, by decide +kernel, rfl, by decide +kernel, by decide +kernel⟩
theorem ok_made {f fL fR : Addr} {fd fdL fdR : FuncData} (F : Fun K "_law_made_right" "_law_made_right" sMade f fd) (T : Txt K mg) (hlist : mg "list" = none) (hrng : mg "range" = none) (hrepr : mg "repr" = none)
    (GL : FnOk P w K mg base CX0 3 fL fdL ["_law_pen_here", "_law_row_here"] spListed) (mL : mg "_law_listed" = some (.ref fL)) (kL : PySem.W.keepIn K (.ref fL) = true) (bL : Binds K fdL ["_law_pen_here", "_law_row_here"] [])
    (GR : FnOk P w K mg base CX0 8 fR fdR ["thing"] spRowOfP) (mR : mg "row_of" = some (.ref fR)) (kR : PySem.W.keepIn K (.ref fR) = true) (bR : Binds K fdR ["thing"] []) :
    FnOk P w K mg base CX0 9 f fd ["_law_pen_here", "_law_row_here"] spMade := by
  refine F.ok scMade (fun vs H Q E h => ?_) (fun cdv A outer s H vs Q E hr h => ?_)
  · obtain ⟨p, c, ns, a, tr, word, name, day, ds, rfl, _⟩ := h
    rfl
  · obtain ⟨p, c, ns, a, tr, word, name, day, ds, rfl, hp, ha, hrd, hS, hnm, hday0, hday1, k⟩ := h
    have hr3 : Room 3 _ := hr.mono (by decide)
    refine ⟨_, pss_cons (ps_for PassesOwn.never rfl (pi_range1 rfl hrng (pa_c pe_int pa_nil)) (pg_name (i := 2) scMade.nd rfl (Or.inl rfl))
        (pss_cons (ps_set (i := 3) scMade.nd rfl (Or.inl rfl) (pe_call GL hr3 rfl mL kL bL .nil pass0 (pa_c (pv 0) (pa_c (pv 1) pa_nil))))
        (pss_cons (ps_set (i := 4) scMade.nd rfl (Or.inl rfl) (pe_callB (call_repr hr) (by rfl) hrepr (by kernel_rfl) (pa_c (pv 3) pa_nil)))
        (pss_cons (ps_set (i := 5) scMade.nd rfl (Or.inl rfl) (pe_call GR hr rfl mR kR bR .nil pass0 (pa_c (pv 3) pa_nil)))
        (pss_cons (ps_if (PW.pt (pw_or (pt_not (pt_val (pe_callB call_isinst (by rfl) T.isi (by kernel_rfl) (pa_c (pv 5) (pa_c (pe_bltn (v := .ty "tuple") (by rfl) T.tuple (by kernel_rfl) rfl) pa_nil)))))
          (pw_or (pt_cmpR op_ne (pe_callB (call_repr hr) (by rfl) hrepr (by kernel_rfl) (pa_c (pv 5) pa_nil)) (pe_callB (call_repr hr) (by rfl) hrepr (by kernel_rfl) (pa_c (pv 1) pa_nil)) (nomark _)) (pw_or1 (pt_cmpR op_ne (pe_callB (call_repr hr) (by rfl) hrepr (by kernel_rfl) (pa_c (pv 3) pa_nil)) (pv 4) (nomark _)))))) (pss_one (ps_ret pe_bl)) pss_nil)
        (pss_cons (ps_mid <| ps_if (pt_val (pe_callB call_isinst (by rfl) T.isi (by kernel_rfl) (pa_c (pv 3) (pa_c (pe_bltn (v := .ty "list") (by rfl) hlist (by kernel_rfl) rfl) pa_nil))))
            (pss_cons (ps_for PassesOwn.never rfl (pi_list (pv 3)) (pg_name (i := 6) scMade.nd rfl (Or.inl rfl))
              (pss_one (ps_if (pt_val (pe_callB call_isinst (by rfl) T.isi (by kernel_rfl) (pa_c (pv 6) (pa_c (pe_bltn (v := .ty "list") (by rfl) hlist (by kernel_rfl) rfl) pa_nil))))
                (pss_one (ps_expr (pe_bm0 PySem.F.plainAttrs_list PySem.F.slot_list_clear PySem.F.type_list_clear mt_clear (pv 6)))) pss_nil)))
            (pss_one (ps_expr (pe_bm0 PySem.F.plainAttrs_list PySem.F.slot_list_clear PySem.F.type_list_clear mt_clear (pv 3))))) pss_nil)
        (pss_one (ps_if (pt_cmpR op_ne (pe_callB (call_repr hr) (by rfl) hrepr (by kernel_rfl) (pa_c (pv 5) pa_nil)) (pe_callB (call_repr hr) (by rfl) hrepr (by kernel_rfl) (pa_c (pv 1) pa_nil)) (nomark _)) (pss_one (ps_ret pe_bl)) pss_nil))))))))
      (pss_one (ps_ret (pe_cmpR op_eq (pe_callB (call_repr hr) (by rfl) hrepr (by kernel_rfl) (pa_c (pe_call GR hr rfl mR kR bR .nil pass0 (pa_c (pv 1) pa_nil)) pa_nil)) (pe_callB (call_repr hr) (by rfl) hrepr (by kernel_rfl) (pa_c (pv 1) pa_nil)) (nomark _)))), ?_⟩
    have hin : ∀ d ∈ (PyData.str word :: PyData.str name :: PyData.int day :: ds), isSeq d = false ∨ ∃ es, d = .tuple es ∧ es.all smallD = true := fun d hd => by
      simp only [List.mem_cons] at hd
      rcases hd with rfl | rfl | rfl | hd
      · exact .inl rfl
      · exact .inl rfl
      · exact .inl rfl
      · rcases hS.inner d hd with z | ⟨es, z, _, y⟩
        · exact .inl z
        · exact .inr ⟨es, z, y⟩
    have hall := All2.refl_of hin
    have hd7 : (PyData.str word :: PyData.str name :: PyData.int day :: ds).length ≤ 7 := by
      have := hS.len
      simp only [List.length_cons]
      first | lia | omega
    have okR : OkD 126752 3 (rowDat word name day ds) := (listed_ok (row_ok hS hnm hday0 hday1) hall hd7).2
    have ordR : OrdTo (tupD 3 (rowDat word name day ds)) (rowDat word name day ds) := listed_ord hS hall
    have rowR := rowS_row hS hnm hday0 hday1
    have plR := hS.plain name day
    have tyR : ∀ d', d' = rowDat word name day ds → isTup d' = true := fun d' e => by rw [e]; rfl
    have rep : ∀ {m : Bool} {H' : Hp} {b : Addr} {d : PyData}, RdV m H' (.ref b) d → OkD 126752 3 d → d.showable = true ∧ d.depth ≤ 20 ∧ d.shown.length ≤ sizeLine := fun r o => ⟨o.sh, Nat.le_trans o.dp (by decide), Nat.le_trans o.len (sizeLine_big (by decide))⟩
    have refR : ∀ {m : Bool} {H' : Hp} {y : V}, RdV m H' y (rowDat word name day ds) → ∃ b, y = .ref b := fun r => by
      unfold rowDat at r
      cases r with
      | tup e hl r => exact ⟨_, rfl⟩
    refine ⟨2, rfl, by decide, by decide, for_range (n := 2) (fun i σ H' => Ex6 fun (o2 o3 o4 o5 o6 : Option V) (a' : Int) => All5 (σ = [some (.ref p), some (.ref tr), o2, o3, o4, o5, o6]) (PenAt H' p c ns a') (a ≤ a') (a' ≤ a + 200 * i) (KeepBut p H H')) ⟨none, none, none, none, none, a, rfl, hp, by first | lia | omega, by simp, KeepBut.refl p H⟩ ?_ ?_⟩
    · rintro i σ H1 hi ⟨o2, o3, o4, o5, o6, a1, rfl, hp1, la1, ua1, k1⟩
      dsimp only [gName]
      have rd1 := rd_but hrd hp k1
      refine ⟨_, rfl, _, rfl, p, c, ns, a1, tr, word, name, day, ds, rfl, hp1, by first | lia | omega, rd1, hS, hnm, hday0, hday1, fun x d2 a2 H2 rx okx ordx hLN la2 ua2 hp2 kp2 => ?_⟩
      obtain ⟨q, xs, rfl, hq0, hq, hqn⟩ := hLN
      obtain ⟨w1, w2, w3⟩ := rep rx okx
      obtain ⟨v1, v2, v3⟩ := rep hrd okR
      refine ⟨_, rfl, q, true, d2, rfl, rx, w1, w2, w3, ?_⟩
      refine ⟨_, rfl, true, _, d2, _, rfl, rx, ordx, rowR, fun y H3 s3 ry => ?_⟩
      obtain ⟨t2, rfl⟩ := refR ry
      have ryF := RdV.unl ry plR
      have hp3 := hp2.same s3
      have k3 : KeepBut p H1 H3 := kp2.same s3
      have rd3 := rd_but rd1 hp1 k3
      refine ⟨_, rfl, _, "tuple", _, _, rfl, ty_of ryF, kit_tup _, _, rfl, ?_⟩
      rw [tyR _ rfl]
      refine iteF ?_
      refine ⟨_, rfl, t2, false, _, rfl, ryF, v1, v2, v3, ?_⟩
      refine ⟨_, rfl, tr, false, _, rfl, rd3, v1, v2, v3, ?_⟩
      refine ⟨rfl, _, rfl, ?_⟩
      rw [decide_eq_true rfl]
      refine iteF ?_
      refine ⟨_, rfl, q, true, d2, rfl, rx.same s3, w1, w2, w3, ?_⟩
      refine ⟨_, rfl, rfl, _, rfl, ?_⟩
      rw [decide_eq_true rfl]
      refine iteF ?_
      refine ⟨fun σ' H' => ∃ (o6 : Option V), σ' = [some (.ref p), some (.ref tr), some (.int (0 + (i : Nat))), some (.ref q), some (.str d2.shown), some (.ref t2), o6] ∧ PenAt H' p c ns a2 ∧ KeepBut p H1 H' ∧ RdV false H' (.ref t2) (rowDat word name day ds), ?_, ?_⟩
      · refine ⟨_, rfl, _, "list", _, _, rfl, ty_of (rx.same s3), kit_lst d2, _, rfl, ?_⟩
        refine ite2 (fun g => ?_) (fun g => ?_)
        · obtain ⟨gs, rfl⟩ : ∃ gs, d2 = .list gs := by
            cases d2 with
            | list z => exact ⟨z, rfl⟩
            | _ => simp [isLst] at g
          cases rx with
          | @lst _ zs _ hm e hl r =>
          have exs : zs = xs := by
            rcases hq with z | z
            · rw [e] at z; cases z; rfl
            · rw [e] at z; cases z
          subst exs
          have hq3 := s3 _ _ e
          refine ⟨_, rfl, q, rfl, ⟨zs, SqL.of hq3⟩, for_list (K := K) (xs := zs) (fun j σ H' => Ex1 fun (o6 : Option V) => All7 (σ = [some (.ref p), some (.ref tr), some (.int (0 + (i : Nat))), some (.ref q), some (.str (PyData.list gs).shown), some (.ref t2), o6]) (PenAt H' p c ns a2) (KeepBut p H1 H') (H' q = some (.lst zs)) (RdV false H' (.ref t2) (rowDat word name day ds)) ((∀ x ∈ zs, Sh H' x)) (∀ b, V.ref b ∈ zs → ∀ ys, H' b = some (.lst ys) → H1 b = none ∧ b ≠ q))
            ⟨_, rfl, hp3, k3, hq3, ryF, Sh.all (r.same s3), fun b hb ys hby => ?_⟩ (fun j σ H' _ z => by obtain ⟨_, _, _, _, z, _⟩ := z; exact SqL.of z) ?_ ?_⟩
          · obtain ⟨o, ho, hno⟩ := mem_rd r hb
            have ho3 := s3 _ _ ho
            rw [hby] at ho3
            cases ho3
            exact hqn b hb ys ho
          · rintro j x σ H4 hx ⟨o6, rfl, hp4, k4, hq4, ry4, hsh, hn4⟩
            dsimp only [gName]
            have hxm := List.mem_of_getElem? hx
            obtain ⟨ty, b, hty, hkit, hb⟩ := (hsh x hxm).ty (K := K)
            refine ⟨_, rfl, _, "list", _, _, rfl, hty, hkit, _, rfl, ?_⟩
            refine ite2 (fun g => ?_) (fun g => ?_)
            · obtain ⟨c4, ys4, rfl, hc4⟩ := hb g
              obtain ⟨hn1, hn2⟩ := hn4 c4 hxm ys4 hc4
              obtain ⟨np, nc⟩ := pen_none hp1 hn1
              refine ⟨_, rfl, .inl ⟨rfl, _, SqL.of hc4⟩, c4, ys4, rfl, rfl, hc4, ?_⟩
              refine ⟨_, rfl, pen_upd hp4 np nc, upd_but k4 hn1, by rw [upd_ne hn2.symm]; exact hq4, rd_clear ry4 hc4, fun x hx => (hsh x hx).clear hc4, fun b hb ys hby => ?_⟩
              by_cases hbc : b = c4
              · rw [hbc]; exact ⟨hn1, hn2⟩
              · rw [upd_ne hbc] at hby
                exact hn4 b hb ys hby
            · exact ⟨_, rfl, hp4, k4, hq4, ry4, hsh, hn4⟩
          · rintro σ H4 ⟨o6, rfl, hp4, k4, hq4, ry4, hsh, hn4⟩
            obtain ⟨np, nc⟩ := pen_none hp1 hq0
            refine ⟨_, rfl, .inl ⟨rfl, _, SqL.of hq4⟩, q, zs, rfl, rfl, hq4, ?_⟩
            exact ⟨_, rfl, pen_upd hp4 np nc, upd_but k4 hq0, rd_clear ry4 hq4⟩
        · exact ⟨_, rfl, hp3, k3, ryF⟩
      · rintro σ' H4 ⟨o6, rfl, hp4, k4, ry4⟩
        have rd4 := rd_but rd1 hp1 k4
        refine ⟨_, rfl, t2, false, _, rfl, ry4, v1, v2, v3, ?_⟩
        refine ⟨_, rfl, tr, false, _, rfl, rd4, v1, v2, v3, ?_⟩
        refine ⟨rfl, _, rfl, ?_⟩
        rw [decide_eq_true rfl]
        refine iteF ?_
        exact ⟨_, _, _, _, _, a2, rfl, hp4, by first | lia | omega, by first | lia | omega, k1.trans k4⟩
    · rintro σ H1 ⟨o2, o3, o4, o5, o6, a1, rfl, hp1, la1, ua1, k1⟩
      have rd1 := rd_but hrd hp k1
      obtain ⟨v1, v2, v3⟩ := rep hrd okR
      refine ⟨_, rfl, false, _, _, _, rfl, rd1, ordR, rowR, fun y H2 s2 ry => ?_⟩
      obtain ⟨t2, rfl⟩ := refR ry
      refine ⟨t2, false, _, rfl, ry, v1, v2, v3, ?_⟩
      refine ⟨_, rfl, tr, false, _, rfl, rd1.same s2, v1, v2, v3, rfl, ?_⟩
      rw [decide_eq_true rfl]
      exact k a1 H2 (by first | lia | omega) (by first | lia | omega) (hp1.same s2) (k1.same s2)
end
end K3

set_option linter.all false
set_option maxRecDepth 100000
set_option Elab.async false
set_option maxHeartbeats 16000000
namespace K3
open PySem L2
inductive I_spLaw (K : PySem.W.Frag) (vs : List V) (H : Hp) (Q : VK) (u3_ : XK) : Prop
  | mk (a : Addr) (ns : List Int) (q0 : vs = [.ref a]) (q1 : SqL K H a (ns.map V.int)) (q2 : ns.length ≤ 63) (q3 : ∀ H', Q (.bl true) H') : I_spLaw K vs H Q u3_
noncomputable def spLaw (K : PySem.W.Frag) : Sp := fun vs H Q u3_ => I_spLaw K vs H Q u3_
theorem RowS.fourth {word : Str} {ds : List PyData} (h : RowS word ds) : ∃ d ds', ds = d :: ds' ∧ (inV (.str word) [V.str "measure", .str "breach", .str "view"] = true → ∃ z, d = .str z) := by
  cases h with
  | part _ _ _ _ _ => exact ⟨_, _, rfl, fun z => absurd z (by decide)⟩
  | join _ _ _ _ _ => exact ⟨_, _, rfl, fun z => absurd z (by decide)⟩
  | forfeit _ _ => exact ⟨_, _, rfl, fun z => absurd z (by decide)⟩
  | measure _ _ _ => exact ⟨_, _, rfl, fun z => ⟨_, rfl⟩⟩
  | mend _ _ _ => exact ⟨_, _, rfl, fun z => absurd z (by decide)⟩
  | alone _ => exact ⟨_, _, rfl, fun z => absurd z (by decide)⟩
  | breach _ _ _ _ _ _ _ => exact ⟨_, _, rfl, fun z => ⟨_, rfl⟩⟩
  | view _ _ _ _ => exact ⟨_, _, rfl, fun z => ⟨_, rfl⟩⟩
section
variable {P : Program} {w : World} {K : PySem.W.Frag} {mg : Str → Option Value} {base : Heap}
noncomputable abbrev lawN : List Str := ["_law_script", "_law_pen_here", "_law_fields", "_law_plots", "_law_houses", "_law_names_here", "_law_days_here", "_law_k", "_law_word", "_law_row_here", "_law_owed", "_law_found"]
theorem scL : FnScope lawN ["_law_script"] (defScope sLaw) := ⟨rfl, rfl, rfl, by decide +kernel, rfl, by decide +kernel, by decide +kernel⟩
theorem ok_law {f fP fT fSo fD fRo fI fM fF : Addr} {fd fdP fdT fdSo fdD fdRo fdI fdM fdF : FuncData} (F : Fun K "law" "law" sLaw f fd) (hrng : mg "range" = none)
    (GP : FnOk P w K mg base CX0 1 fP fdP ["_law_script"] (spPen K)) (mP : mg "_law_pen" = some (.ref fP)) (kP : PySem.W.keepIn K (.ref fP) = true) (bP : Binds K fdP ["_law_script"] [])
    (GT : FnOk P w K mg base CX0 1 fT fdT ["_law_pen_here", "_law_many"] spTake) (mT : mg "_law_take" = some (.ref fT)) (kT : PySem.W.keepIn K (.ref fT) = true) (bT : Binds K fdT ["_law_pen_here", "_law_many"] [])
    (GSo : FnOk P w K mg base CX0 3 fSo fdSo ["_law_pen_here", "_law_fields", "_law_rows"] spSorts) (mSo : mg "_law_sorts" = some (.ref fSo)) (kSo : PySem.W.keepIn K (.ref fSo) = true) (bSo : Binds K fdSo ["_law_pen_here", "_law_fields", "_law_rows"] [])
    (GD : FnOk P w K mg base CX0 2 fD fdD ["_law_pen_here", "_law_many"] spDays) (mD : mg "_law_days" = some (.ref fD)) (kD : PySem.W.keepIn K (.ref fD) = true) (bD : Binds K fdD ["_law_pen_here", "_law_many"] [])
    (GRo : FnOk P w K mg base CX0 3 fRo fdRo ["_law_pen_here", "_law_word", "_law_name", "_law_day", "_law_sorts_here"] spRowOf) (mRo : mg "_law_row_of" = some (.ref fRo)) (kRo : PySem.W.keepIn K (.ref fRo) = true) (bRo : Binds K fdRo ["_law_pen_here", "_law_word", "_law_name", "_law_day", "_law_sorts_here"] [])
    (GI : FnOk P w K mg base CX0 7 fI fdI ["thing"] spIsRow) (mI : mg "is_row" = some (.ref fI)) (kI : PySem.W.keepIn K (.ref fI) = true) (bI : Binds K fdI ["thing"] [])
    (GM : FnOk P w K mg base CX0 9 fM fdM ["_law_pen_here", "_law_row_here"] spMade) (mM : mg "_law_made_right" = some (.ref fM)) (kM : PySem.W.keepIn K (.ref fM) = true) (bM : Binds K fdM ["_law_pen_here", "_law_row_here"] [])
    (GF : FnOk P w K mg base CX0 1 fF fdF ["row"] spFieldOf) (mF : mg "field_of" = some (.ref fF)) (kF : PySem.W.keepIn K (.ref fF) = true) (bF : Binds K fdF ["row"] []) :
    FnOk P w K mg base CX0 10 f fd ["_law_script"] (spLaw K) := by
  refine F.ok scL (fun vs H Q E h => ?_) (fun cdv A outer s H vs Q E hr h => ?_)
  · obtain ⟨a, ns, rfl, _⟩ := h
    rfl
  · obtain ⟨sc, ns, rfl, hS, hln, k⟩ := h
    have hr1 : Room 1 _ := hr.mono (by decide)
    have hr2 : Room 2 _ := hr.mono (by decide)
    have hr3 : Room 3 _ := hr.mono (by decide)
    have hr7 : Room 7 _ := hr.mono (by decide)
    refine ⟨_, pss_cons (ps_set (i := 1) scL.nd rfl (Or.inl rfl) (pe_call GP hr1 rfl mP kP bP .nil pass0 (pa_c (pv 0) pa_nil)))
      (pss_cons (ps_asg (pe_call GSo hr3 rfl mSo kSo bSo .nil pass0 (pa_c (pv 1) (pa_c (pe_op op_add pe_int (pe_call GT hr1 rfl mT kT bT .nil pass0 (pa_c (pv 1) (pa_c pe_int pa_nil)))) (pa_c pe_int pa_nil)))) (pg_tup rfl (pgs_cons (pg_name (i := 2) scL.nd rfl (Or.inl rfl)) (pgs_cons (pg_name (i := 3) scL.nd rfl (Or.inl rfl)) (pgs_cons (pg_name (i := 4) scL.nd rfl (Or.inl rfl)) (pgs_cons (pg_name (i := 5) scL.nd rfl (Or.inl rfl)) pgs_nil))))))
      (pss_cons (ps_set (i := 6) scL.nd rfl (Or.inl rfl) (pe_call GD hr2 rfl mD kD bD .nil pass0 (pa_c (pv 1) (pa_c pe_int pa_nil))))
      (pss_cons (ps_for PassesOwn.never rfl (pi_range1 rfl hrng (pa_c pe_int pa_nil)) (pg_name (i := 7) scL.nd rfl (Or.inl rfl))
        (pss_cons (ps_set (i := 8) scL.nd rfl (Or.inl rfl) (pe_ix ix_list (pe_lst (pa_c pe_str (pa_c pe_str (pa_c pe_str (pa_c pe_str (pa_c pe_str (pa_c pe_str (pa_c pe_str (pa_c pe_str pa_nil))))))))) (pe_op op_mod (pv 7) pe_int) (fun _ _ => rfl)))
        (pss_cons (ps_set (i := 9) scL.nd rfl (Or.inl rfl) (pe_call GRo hr3 rfl mRo kRo bRo .nil pass0 (pa_c (pv 1) (pa_c (pv 8) (pa_c (pe_ix ix_list (pv 5) (pv 7) (fun _ _ => rfl)) (pa_c (pe_ix ix_list (pv 6) (pv 7) (fun _ _ => rfl)) (pa_c (pe_tup (pa_c (pv 2) (pa_c (pv 3) (pa_c (pv 4) pa_nil)))) pa_nil)))))))
        (pss_cons (ps_if (PW.pt (pw_or (pt_cmpR op_isnotB (pe_call GI hr7 rfl mI kI bI .nil pass0 (pa_c (pv 9) pa_nil)) pe_bl (nomark _)) (pw_or1 (pt_not (pt_val (pe_call GM hr rfl mM kM bM .nil pass0 (pa_c (pv 1) (pa_c (pv 9) pa_nil)))))))) (pss_one (ps_ret pe_bl)) pss_nil)
        (pss_cons (ps_set (i := 10) scL.nd rfl (Or.inl rfl) pe_non)
        (pss_cons (ps_mid <| ps_if (pt_cmpR op_in_seq (pv 8) (pe_tup (pa_c pe_str (pa_c pe_str (pa_c pe_str pa_nil)))) (by with_unfolding_all rfl)) (pss_one (ps_set (i := 10) scL.nd rfl (Or.inl rfl) (pe_ix ix_tup (pv 9) pe_int (fun _ _ => rfl)))) pss_nil)
        (pss_cons (ps_set (i := 11) scL.nd rfl (Or.inl rfl) (pe_call GF hr1 rfl mF kF bF .nil pass0 (pa_c (pv 9) pa_nil)))
        (pss_one (ps_if (PW.pt (pw_or (PW.pt (pw_and (pt_cmpR op_isN (pv 11) pe_non (nomark _)) (pw_and1 (pt_cmpR op_notN (pv 10) pe_non (nomark _))))) (pw_or (PW.pt (pw_and (pt_cmpR op_notN (pv 11) pe_non (nomark _)) (pw_and1 (pt_cmpR op_ne (pv 11) (pv 10) (nomark _))))) (pw_or1 (pt_cmpR op_isnotB (pe_call GI hr7 rfl mI kI bI .nil pass0 (pa_c (pv 9) pa_nil)) pe_bl (nomark _)))))) (pss_one (ps_ret pe_bl)) pss_nil)))))))))
      (pss_one (ps_ret pe_bl))))), ?_⟩
    refine ⟨_, rfl, sc, ns, rfl, hS, hln, fun p c H1 hp1 s1 np => ?_⟩
    refine ⟨_, rfl, _, rfl, p, c, ns, 0, _, rfl, hp1, by decide, by decide, by decide +kernel, fun r4 a4 H5 r40 r41 la4 ua4 hp5 kp5 => ?_⟩
    obtain ⟨n4, rfl⟩ := Int.eq_ofNat_of_zero_le r40
    refine ⟨_, _, rfl, rfl, p, c, ns, a4, 1 + n4, 16, rfl, hp5, by first | lia | omega, by first | lia | omega, by decide, fun t l1 l2 l3 l4 ws ps hs rs a5 H6 ht hl1 hwl hNw hl2 hpl hNp hl3 hhl hNh hl4 hrl hNr la5 ua5 hp6 kp6 => ?_⟩
    refine ⟨t, _, rfl, SqT.of ht, rfl, _, _, rfl, _, _, rfl, _, _, rfl, _, _, rfl, rfl, ?_⟩
    refine ⟨_, rfl, p, c, ns, a5, 16, rfl, hp6, by first | lia | omega, by decide, fun lD ds a6 H7 hlD hdl hds la6 ua6 hp7 kp7 => ?_⟩
    refine ⟨16, rfl, by decide, by decide, for_range (n := 16) (fun i σ H' => Ex6 fun (o7 o8 o9 o10 o11 : Option V) (a' : Int) => All4 (σ = [some (.ref sc), some (.ref p), some (.ref l1), some (.ref l2), some (.ref l3), some (.ref l4), some (.ref lD), o7, o8, o9, o10, o11]) (PenAt H' p c ns a') (a' ≤ a6 + 500 * i) (KeepBut p H7 H')) ⟨none, none, none, none, none, a6, rfl, hp7, by simp, KeepBut.refl p H7⟩ ?_ ?_⟩
    · rintro i σ H8 hi ⟨o7, o8, o9, o10, o11, a8, rfl, hp8, ua8, k8⟩
      dsimp only [gName]
      have k68 := kp7.trans k8
      have hS3 : S3 H8 l1 l2 l3 ws ps hs := ⟨lst_but hl1 hp6 k68, lst_but hl2 hp6 k68, lst_but hl3 hp6 k68, by first | lia | omega, by first | lia | omega, hpl, hhl, hNw, hNp, hNh⟩
      have h48 := lst_but hl4 hp6 k68
      have hD8 := lst_but hlD hp7 k8
      refine ⟨sizeLine_big (by show 8 ≤ 1000000; decide), fun q hq => ?_⟩
      have sq := Same.new (o := .lst [V.str "part", .str "join", .str "forfeit", .str "measure", .str "mend", .str "alone", .str "breach", .str "view"]) hq
      refine ⟨_, rfl, _, _, rfl, rfl, show (0 : Int) < 8 by decide, ?_⟩
      obtain ⟨v, hv, hat⟩ := atI_in (xs := [V.str "part", .str "join", .str "forfeit", .str "measure", .str "mend", .str "alone", .str "breach", .str "view"]) (i := (0 + (i : Int)) % 8) (by first | lia | omega) (by show _ < 8; first | lia | omega)
      obtain ⟨word, rfl, hword⟩ : ∃ word : Str, v = .str word ∧ word ∈ words8 := by
        simp only [List.mem_cons, List.not_mem_nil, or_false] at hv
        rcases hv with rfl | rfl | rfl | rfl | rfl | rfl | rfl | rfl <;> exact ⟨_, rfl, by decide⟩
      refine ⟨q, _, _, _, rfl, rfl, SqL.of upd_same, hat, ?_⟩
      have hp9 := hp8.same sq
      have hS9 := hS3.same sq
      have h49 := sq _ _ h48
      have hD9 := sq _ _ hD8
      have k9 := k8.same sq
      generalize upd H8 q (.lst [V.str "part", .str "join", .str "forfeit", .str "measure", .str "mend", .str "alone", .str "breach", .str "view"]) = H9 at hp9 hS9 h49 hD9 k9 ⊢
      obtain ⟨name, hname⟩ : ∃ y, rs[i]? = some y := ⟨_, List.getElem?_eq_getElem (by first | lia | omega)⟩
      have nname := hNr.ok name (List.mem_of_getElem? hname)
      obtain ⟨day, hday⟩ : ∃ y, ds[i]? = some y := ⟨_, List.getElem?_eq_getElem (by first | lia | omega)⟩
      obtain ⟨d0, d1⟩ := hds day (List.mem_of_getElem? hday)
      have hat5 : atI (rs.map V.str) (0 + (i : Int)) = some (.str name) := by
        rw [Int.zero_add]
        exact atI_nat (by rw [List.getElem?_map, hname]; rfl)
      have hat6 : atI (ds.map V.int) (0 + (i : Int)) = some (.int day) := by
        rw [Int.zero_add]
        exact atI_nat (by rw [List.getElem?_map, hday]; rfl)
      refine ⟨_, rfl, _, rfl, _, rfl, _, rfl, l4, _, _, _, rfl, rfl, SqL.of h49, hat5, ?_⟩
      refine ⟨_, rfl, _, rfl, lD, _, _, _, rfl, rfl, SqL.of hD9, hat6, ?_⟩
      refine ⟨_, rfl, _, rfl, _, rfl, sizeLine_big (by show 3 ≤ 1000000; decide), fun tS htS => ?_⟩
      have sT := Same.new (o := .tup [V.ref l1, .ref l2, .ref l3]) htS
      refine ⟨p, c, ns, a8, word, name, day, tS, l1, l2, l3, ws, ps, hs, rfl, hp9.same sT, by first | lia | omega, upd_same, hS9.same sT, hword, nname, fun tr rd rest a9 HA htr rrest hRS la9 ua9 hpA kpA => ?_⟩
      have hrl4 := rrest.len
      have hrd4 := hRS.len
      have hrow : RdV false HA (.ref tr) (rowDat word name day rd) := .tup htr (by simp only [List.length_cons]; first | lia | omega) (.cons (.str word (word_len hword)) (.cons (nm_rd nname) (.cons (.int day) rrest)))
      have rowR := rowS_row hRS nname d0 d1
      refine ⟨_, rfl, false, _, _, rfl, hrow, fun HB sB => ?_⟩
      refine ⟨true, rfl, _, rfl, ?_⟩
      rw [rowR, decide_eq_true rfl]
      refine iteF ?_
      have hrowB := hrow.same sB
      refine ⟨_, rfl, _, rfl, p, c, ns, a9, tr, word, name, day, rd, rfl, hpA.same sB, by first | lia | omega, hrowB, hRS, nname, d0, d1, fun aC HC laC uaC hpC kpC => ⟨_, rfl, ?_⟩⟩
      refine iteF ?_
      have hrowC := rd_but hrowB (hpA.same sB) kpC
      have htrC : HC tr = some (.tup (.str word :: .str name :: .int day :: rest)) := tup_but (sB _ _ htr) (hpA.same sB) kpC
      obtain ⟨d4, rd', erd, hf4⟩ := hRS.fourth
      subst erd
      have kA : KeepBut p H7 HC := ((k9.same sT).trans kpA).trans ((Same.but sB).trans kpC)
      cases rrest with
      | @cons x4 _ rest' _ r4 rr =>
      refine ⟨fun σ' H' => σ' = [some (.ref sc), some (.ref p), some (.ref l1), some (.ref l2), some (.ref l3), some (.ref l4), some (.ref lD), some (.int (0 + (i : Int))), some (.str word), some (.ref tr), some (if inV (.str word) [V.str "measure", .str "breach", .str "view"] = true then x4 else .non), o11] ∧ Same HC H', ?_, ?_⟩
      · refine ⟨_, rfl, sizeLine_big (by show 3 ≤ 1000000; decide), fun q2 hq2 => ?_⟩
        have s2 := Same.new (o := .tup [V.str "measure", .str "breach", .str "view"]) hq2
        refine ⟨q2, _, rfl, .inr (SqT.of upd_same), rfl, rfl, _, rfl, ?_⟩
        rw [if_neg Bool.false_ne_true]
        refine ite2 (fun g => ?_) (fun g => ?_)
        · refine ⟨_, rfl, tr, _, 3, _, rfl, rfl, SqT.of (s2 _ _ htrC), atI_nat (j := 3) rfl, ?_⟩
          exact ⟨by rw [if_pos g]; rfl, s2⟩
        · exact ⟨by rw [if_neg g]; rfl, s2⟩
      · rintro σ' H' ⟨rfl, sX⟩
        refine ⟨_, rfl, tr, word, _, _, x4, rest', rfl, sX _ _ htrC, fun HD sD => ?_⟩
        have hp' := (hpC.same sX).same sD
        have hrowD := (hrowC.same sX).same sD
        have kD : KeepBut p H7 HD := (kA.same sX).same sD
        have fin : ∀ HE, Same HD HE → Ex6 fun (o7 o8 o9 o10 o11 : Option V) (a' : Int) => All4 (([some (.ref sc), some (.ref p), some (.ref l1), some (.ref l2), some (.ref l3), some (.ref l4), some (.ref lD), some (.int (0 + (i : Int))), some (.str word), some (.ref tr), some (if inV (.str word) [V.str "measure", .str "breach", .str "view"] = true then x4 else .non), some (if inV (.str word) [V.str "measure", .str "breach", .str "view"] = true then x4 else .non)] : St) = [some (.ref sc), some (.ref p), some (.ref l1), some (.ref l2), some (.ref l3), some (.ref l4), some (.ref lD), o7, o8, o9, o10, o11]) (PenAt HE p c ns a') (a' ≤ a6 + 500 * ((i + 1 : Nat) : Int)) (KeepBut p H7 HE) := fun HE sE => ⟨_, _, _, _, _, aC, rfl, hp'.same sE, by first | lia | omega, kD.same sE⟩
        by_cases g : inV (.str word) [V.str "measure", .str "breach", .str "view"] = true
        · obtain ⟨z, rfl⟩ := hf4 g
          cases r4
          rw [if_pos g] at fin ⊢
          refine ⟨_, rfl, rfl, _, rfl, ?_⟩
          rw [decide_eq_false (show ¬ V.str z = V.non from fun y => nomatch y)]
          refine iteF ?_
          refine iteF ?_
          refine ⟨_, rfl, rfl, _, rfl, ?_⟩
          rw [decide_eq_false (show ¬ V.str z = V.non from fun y => nomatch y)]
          refine iteT ?_
          refine ⟨_, rfl, _, rfl, rfl, _, rfl, ?_⟩
          rw [decide_eq_true rfl]
          refine iteF ?_
          refine ⟨_, rfl, false, _, _, rfl, hrowD, fun HE sE => ?_⟩
          refine ⟨true, rfl, _, rfl, ?_⟩
          rw [rowR, decide_eq_true rfl]
          refine iteF ?_
          exact fin HE sE
        · rw [if_neg g] at fin ⊢
          refine ⟨_, rfl, rfl, _, rfl, ?_⟩
          rw [decide_eq_true rfl]
          refine iteT ?_
          refine ⟨_, rfl, rfl, _, rfl, ?_⟩
          rw [decide_eq_true rfl]
          refine iteF ?_
          refine ⟨_, rfl, rfl, _, rfl, ?_⟩
          rw [decide_eq_true rfl]
          refine iteF ?_
          refine iteF ?_
          refine ⟨_, rfl, false, _, _, rfl, hrowD, fun HE sE => ?_⟩
          refine ⟨true, rfl, _, rfl, ?_⟩
          rw [rowR, decide_eq_true rfl]
          refine iteF ?_
          exact fin HE sE
    · rintro σ H8 ⟨o7, o8, o9, o10, o11, a8, rfl, hp8, ua8, k8⟩
      exact k H8
end
end K3

set_option linter.all false
set_option maxRecDepth 100000
set_option Elab.async false
set_option maxHeartbeats 8000000
namespace K3
open PySem L2
noncomputable def fmV (g0 g1 g2 g3 g4 g5 g6 g7 : Addr) : List (Key × V) := [(Sum.inr "part", .ref g0), (Sum.inr "join", .ref g1), (Sum.inr "forfeit", .ref g2), (Sum.inr "measure", .ref g3), (Sum.inr "mend", .ref g4), (Sum.inr "alone", .ref g5), (Sum.inr "breach", .ref g6), (Sum.inr "view", .ref g7)]
noncomputable def fmR (g0 g1 g2 g3 g4 g5 g6 g7 : Addr) : List (Key × Value) := [(Sum.inr "part", .ref g0), (Sum.inr "join", .ref g1), (Sum.inr "forfeit", .ref g2), (Sum.inr "measure", .ref g3), (Sum.inr "mend", .ref g4), (Sum.inr "alone", .ref g5), (Sum.inr "breach", .ref g6), (Sum.inr "view", .ref g7)]
theorem fm_rel (g0 g1 g2 g3 g4 g5 g6 g7 : Addr) : KV (fmV g0 g1 g2 g3 g4 g5 g6 g7) (fmR g0 g1 g2 g3 g4 g5 g6 g7) := .cons ⟨rfl, rfl⟩ (.cons ⟨rfl, rfl⟩ (.cons ⟨rfl, rfl⟩ (.cons ⟨rfl, rfl⟩ (.cons ⟨rfl, rfl⟩ (.cons ⟨rfl, rfl⟩ (.cons ⟨rfl, rfl⟩ (.cons ⟨rfl, rfl⟩ (.nil))))))))
theorem keyH_str (w : World) (s : Str) : PyData.keyHash w.params s = keyH w (Sum.inr s) := by
  first | rfl | (unfold keyH hashStr PyData.keyHash; rfl)
theorem isS (s : Str) (t : Tok) : keyIs (Sum.inr s) (.str s t) = true := by
  show Value.isStrOf s (.str s t) = true
  simp [Value.isStrOf]
theorem fm_dict {P : Program} {w : World} {K : PySem.W.Frag} {a : Addr} {e : Nat} {x0 x1 x2 x3 x4 x5 x6 x7 : Tok} {g0 g1 g2 g3 g4 g5 g6 g7 : Addr} (l : K.lookup a = some { cls := .type "dict", data := .dict #[⟨PyData.keyHash w.params "part", .str "part" x0, .ref g0⟩, ⟨PyData.keyHash w.params "join", .str "join" x1, .ref g1⟩, ⟨PyData.keyHash w.params "forfeit", .str "forfeit" x2, .ref g2⟩, ⟨PyData.keyHash w.params "measure", .str "measure" x3, .ref g3⟩, ⟨PyData.keyHash w.params "mend", .str "mend" x4, .ref g4⟩, ⟨PyData.keyHash w.params "alone", .str "alone" x5, .ref g5⟩, ⟨PyData.keyHash w.params "breach", .str "breach" x6, .ref g6⟩, ⟨PyData.keyHash w.params "view", .str "view" x7, .ref g7⟩] e }) : ∀ h : Heap, K.In h → h.DictOf (mixKind P w) a (fmR g0 g1 g2 g3 g4 g5 g6 g7) := by
  intro h hK
  refine ⟨_, _, _, hK _ _ l, ⟨rfl, rfl, rfl⟩, rfl, ?_, ?_, ?_⟩
  · intro en he
    simp only [List.mem_toArray, List.mem_cons, List.not_mem_nil, or_false] at he
    rcases he with rfl | rfl | rfl | rfl | rfl | rfl | rfl | rfl
    · exact ⟨Sum.inr "part", isS "part" x0, keyH_str w "part"⟩
    · exact ⟨Sum.inr "join", isS "join" x1, keyH_str w "join"⟩
    · exact ⟨Sum.inr "forfeit", isS "forfeit" x2, keyH_str w "forfeit"⟩
    · exact ⟨Sum.inr "measure", isS "measure" x3, keyH_str w "measure"⟩
    · exact ⟨Sum.inr "mend", isS "mend" x4, keyH_str w "mend"⟩
    · exact ⟨Sum.inr "alone", isS "alone" x5, keyH_str w "alone"⟩
    · exact ⟨Sum.inr "breach", isS "breach" x6, keyH_str w "breach"⟩
    · exact ⟨Sum.inr "view", isS "view" x7, keyH_str w "view"⟩
  · exact .cons (isS "part" x0) rfl (.cons (isS "join" x1) rfl (.cons (isS "forfeit" x2) rfl (.cons (isS "measure" x3) rfl (.cons (isS "mend" x4) rfl (.cons (isS "alone" x5) rfl (.cons (isS "breach" x6) rfl (.cons (isS "view" x7) rfl (.nil))))))))
  · show ([Sum.inr "part", Sum.inr "join", Sum.inr "forfeit", Sum.inr "measure", Sum.inr "mend", Sum.inr "alone", Sum.inr "breach", Sum.inr "view"] : List Key).Nodup
    decide +kernel
theorem fm_at (g0 g1 g2 g3 g4 g5 g6 g7 : Addr) (kind : Str) : valV (fmV g0 g1 g2 g3 g4 g5 g6 g7) (Sum.inr kind) = if kind = "part" then some (.ref g0) else if kind = "join" then some (.ref g1) else if kind = "forfeit" then some (.ref g2) else if kind = "measure" then some (.ref g3) else if kind = "mend" then some (.ref g4) else if kind = "alone" then some (.ref g5) else if kind = "breach" then some (.ref g6) else if kind = "view" then some (.ref g7) else none := by
  unfold fmV
  by_cases h0 : kind = "part"
  · rw [if_pos h0]
    subst h0
    rfl
  rw [valV_neg (show ¬ (Sum.inr "part" : Key) = Sum.inr kind from fun z => h0 (by injection z with z; exact z.symm)), if_neg h0]
  by_cases h1 : kind = "join"
  · rw [if_pos h1]
    subst h1
    rfl
  rw [valV_neg (show ¬ (Sum.inr "join" : Key) = Sum.inr kind from fun z => h1 (by injection z with z; exact z.symm)), if_neg h1]
  by_cases h2 : kind = "forfeit"
  · rw [if_pos h2]
    subst h2
    rfl
  rw [valV_neg (show ¬ (Sum.inr "forfeit" : Key) = Sum.inr kind from fun z => h2 (by injection z with z; exact z.symm)), if_neg h2]
  by_cases h3 : kind = "measure"
  · rw [if_pos h3]
    subst h3
    rfl
  rw [valV_neg (show ¬ (Sum.inr "measure" : Key) = Sum.inr kind from fun z => h3 (by injection z with z; exact z.symm)), if_neg h3]
  by_cases h4 : kind = "mend"
  · rw [if_pos h4]
    subst h4
    rfl
  rw [valV_neg (show ¬ (Sum.inr "mend" : Key) = Sum.inr kind from fun z => h4 (by injection z with z; exact z.symm)), if_neg h4]
  by_cases h5 : kind = "alone"
  · rw [if_pos h5]
    subst h5
    rfl
  rw [valV_neg (show ¬ (Sum.inr "alone" : Key) = Sum.inr kind from fun z => h5 (by injection z with z; exact z.symm)), if_neg h5]
  by_cases h6 : kind = "breach"
  · rw [if_pos h6]
    subst h6
    rfl
  rw [valV_neg (show ¬ (Sum.inr "breach" : Key) = Sum.inr kind from fun z => h6 (by injection z with z; exact z.symm)), if_neg h6]
  by_cases h7 : kind = "view"
  · rw [if_pos h7]
    subst h7
    rfl
  rw [valV_neg (show ¬ (Sum.inr "view" : Key) = Sum.inr kind from fun z => h7 (by injection z with z; exact z.symm)), if_neg h7]
  rfl
theorem fm_in (g0 g1 g2 g3 g4 g5 g6 g7 : Addr) (kind : Str) : (valV (fmV g0 g1 g2 g3 g4 g5 g6 g7) (Sum.inr kind)).isSome = decide (kind ∈ words8) := by
  rw [fm_at]
  simp only [words8, List.mem_cons, List.not_mem_nil, or_false]
  by_cases h0 : kind = "part"
  · rw [if_pos h0, decide_eq_true (by simp [h0])]; rfl
  rw [if_neg h0]
  by_cases h1 : kind = "join"
  · rw [if_pos h1, decide_eq_true (by simp [h1])]; rfl
  rw [if_neg h1]
  by_cases h2 : kind = "forfeit"
  · rw [if_pos h2, decide_eq_true (by simp [h2])]; rfl
  rw [if_neg h2]
  by_cases h3 : kind = "measure"
  · rw [if_pos h3, decide_eq_true (by simp [h3])]; rfl
  rw [if_neg h3]
  by_cases h4 : kind = "mend"
  · rw [if_pos h4, decide_eq_true (by simp [h4])]; rfl
  rw [if_neg h4]
  by_cases h5 : kind = "alone"
  · rw [if_pos h5, decide_eq_true (by simp [h5])]; rfl
  rw [if_neg h5]
  by_cases h6 : kind = "breach"
  · rw [if_pos h6, decide_eq_true (by simp [h6])]; rfl
  rw [if_neg h6]
  by_cases h7 : kind = "view"
  · rw [if_pos h7, decide_eq_true (by simp [h7])]; rfl
  rw [if_neg h7]
  rw [decide_eq_false (by simp [h0, h1, h2, h3, h4, h5, h6, h7])]
  rfl
theorem fm_fn {P : Program} {w : World} {K : PySem.W.Frag} {mg : Str → Option Value} {base : Heap} {g0 g1 g2 g3 g4 g5 g6 g7 : Addr} {d0 : FuncData} (G0 : FnOk P w K mg base CX0 6 g0 d0 ["rest"] (spFits fPart)) (k0 : PySem.W.keepIn K (.ref g0) = true) (b0 : Binds K d0 ["rest"] []) {d1 : FuncData} (G1 : FnOk P w K mg base CX0 6 g1 d1 ["rest"] (spFits fJoin)) (k1 : PySem.W.keepIn K (.ref g1) = true) (b1 : Binds K d1 ["rest"] []) {d2 : FuncData} (G2 : FnOk P w K mg base CX0 6 g2 d2 ["rest"] (spFits fForfeit)) (k2 : PySem.W.keepIn K (.ref g2) = true) (b2 : Binds K d2 ["rest"] []) {d3 : FuncData} (G3 : FnOk P w K mg base CX0 6 g3 d3 ["rest"] (spFits fMeasure)) (k3 : PySem.W.keepIn K (.ref g3) = true) (b3 : Binds K d3 ["rest"] []) {d4 : FuncData} (G4 : FnOk P w K mg base CX0 6 g4 d4 ["rest"] (spFits fMend)) (k4 : PySem.W.keepIn K (.ref g4) = true) (b4 : Binds K d4 ["rest"] []) {d5 : FuncData} (G5 : FnOk P w K mg base CX0 6 g5 d5 ["rest"] (spFits fAlone)) (k5 : PySem.W.keepIn K (.ref g5) = true) (b5 : Binds K d5 ["rest"] []) {d6 : FuncData} (G6 : FnOk P w K mg base CX0 6 g6 d6 ["rest"] (spFits fBreach)) (k6 : PySem.W.keepIn K (.ref g6) = true) (b6 : Binds K d6 ["rest"] []) {d7 : FuncData} (G7 : FnOk P w K mg base CX0 6 g7 d7 ["rest"] (spFits fView)) (k7 : PySem.W.keepIn K (.ref g7) = true) (b7 : Binds K d7 ["rest"] []) :
    ∀ (kind : Str) (v : V), valV (fmV g0 g1 g2 g3 g4 g5 g6 g7) (Sum.inr kind) = some v → ∃ (a : Addr) (fd : FuncData), v = .ref a ∧ FnOk P w K mg base CX0 6 a fd ["rest"] (spFits (fitD kind)) ∧ PySem.W.keepIn K (.ref a) = true ∧ Binds K fd ["rest"] [] := by
  intro kind v h
  rw [fm_at] at h
  by_cases h0 : kind = "part"
  · rw [if_pos h0] at h
    cases h
    subst h0
    have e : fitD "part" = fPart := by funext ds; unfold fitD; rw [if_pos rfl]
    exact ⟨g0, d0, rfl, by rw [e]; exact G0, k0, b0⟩
  rw [if_neg h0] at h
  by_cases h1 : kind = "join"
  · rw [if_pos h1] at h
    cases h
    subst h1
    have e : fitD "join" = fJoin := by funext ds; unfold fitD; rw [if_neg (by decide), if_pos rfl]
    exact ⟨g1, d1, rfl, by rw [e]; exact G1, k1, b1⟩
  rw [if_neg h1] at h
  by_cases h2 : kind = "forfeit"
  · rw [if_pos h2] at h
    cases h
    subst h2
    have e : fitD "forfeit" = fForfeit := by funext ds; unfold fitD; rw [if_neg (by decide), if_neg (by decide), if_pos rfl]
    exact ⟨g2, d2, rfl, by rw [e]; exact G2, k2, b2⟩
  rw [if_neg h2] at h
  by_cases h3 : kind = "measure"
  · rw [if_pos h3] at h
    cases h
    subst h3
    have e : fitD "measure" = fMeasure := by funext ds; unfold fitD; rw [if_neg (by decide), if_neg (by decide), if_neg (by decide), if_pos rfl]
    exact ⟨g3, d3, rfl, by rw [e]; exact G3, k3, b3⟩
  rw [if_neg h3] at h
  by_cases h4 : kind = "mend"
  · rw [if_pos h4] at h
    cases h
    subst h4
    have e : fitD "mend" = fMend := by funext ds; unfold fitD; rw [if_neg (by decide), if_neg (by decide), if_neg (by decide), if_neg (by decide), if_pos rfl]
    exact ⟨g4, d4, rfl, by rw [e]; exact G4, k4, b4⟩
  rw [if_neg h4] at h
  by_cases h5 : kind = "alone"
  · rw [if_pos h5] at h
    cases h
    subst h5
    have e : fitD "alone" = fAlone := by funext ds; unfold fitD; rw [if_neg (by decide), if_neg (by decide), if_neg (by decide), if_neg (by decide), if_neg (by decide), if_pos rfl]
    exact ⟨g5, d5, rfl, by rw [e]; exact G5, k5, b5⟩
  rw [if_neg h5] at h
  by_cases h6 : kind = "breach"
  · rw [if_pos h6] at h
    cases h
    subst h6
    have e : fitD "breach" = fBreach := by funext ds; unfold fitD; rw [if_neg (by decide), if_neg (by decide), if_neg (by decide), if_neg (by decide), if_neg (by decide), if_neg (by decide), if_pos rfl]
    exact ⟨g6, d6, rfl, by rw [e]; exact G6, k6, b6⟩
  rw [if_neg h6] at h
  by_cases h7 : kind = "view"
  · rw [if_pos h7] at h
    cases h
    subst h7
    have e : fitD "view" = fView := by funext ds; unfold fitD; rw [if_neg (by decide), if_neg (by decide), if_neg (by decide), if_neg (by decide), if_neg (by decide), if_neg (by decide), if_neg (by decide)]
    exact ⟨g7, d7, rfl, by rw [e]; exact G7, k7, b7⟩
  rw [if_neg h7] at h
  cases h
end K3

set_option linter.all false
set_option maxRecDepth 100000
set_option Elab.async false
set_option maxHeartbeats 8000000
namespace K3
open PySem L2
theorem all_mk {l : PySem.W.OpenLaw} {w : World} {K : PySem.W.Frag} {h : Heap} {mg : Str → Option Value} {fa : Addr} (X : K.In h) (G : h.Ns mainGlobals mg) (hfa : mg "law" = some (.ref fa))
    {fIN : Addr} {odIN anIN : Option Addr} {slIN : Array (Option Value)} {ocIN kVIN dcIN pmIN cdIN ctIN : Value} {fNB : Addr} {odNB anNB : Option Addr} {slNB : Array (Option Value)} {ocNB kVNB dcNB pmNB cdNB ctNB : Value} {fIW : Addr} {odIW anIW : Option Addr} {slIW : Array (Option Value)} {ocIW kVIW dcIW pmIW cdIW ctIW : Value} {fRI : Addr} {odRI anRI : Option Addr} {slRI : Array (Option Value)} {ocRI kVRI dcRI pmRI cdRI ctRI : Value} {fPT : Addr} {odPT anPT : Option Addr} {slPT : Array (Option Value)} {ocPT kVPT dcPT pmPT cdPT ctPT : Value} {fAP : Addr} {odAP anAP : Option Addr} {slAP : Array (Option Value)} {ocAP kVAP dcAP pmAP cdAP ctAP : Value} {fAN : Addr} {odAN anAN : Option Addr} {slAN : Array (Option Value)} {ocAN kVAN dcAN pmAN cdAN ctAN : Value} {fRP : Addr} {odRP anRP : Option Addr} {slRP : Array (Option Value)} {ocRP kVRP dcRP pmRP cdRP ctRP : Value} {fRL : Addr} {odRL anRL : Option Addr} {slRL : Array (Option Value)} {ocRL kVRL dcRL pmRL cdRL ctRL : Value} {fIC : Addr} {odIC anIC : Option Addr} {slIC : Array (Option Value)} {ocIC kVIC dcIC pmIC cdIC ctIC : Value} {fF0 : Addr} {odF0 anF0 : Option Addr} {slF0 : Array (Option Value)} {ocF0 kVF0 dcF0 pmF0 cdF0 ctF0 : Value} {fF1 : Addr} {odF1 anF1 : Option Addr} {slF1 : Array (Option Value)} {ocF1 kVF1 dcF1 pmF1 cdF1 ctF1 : Value} {fF2 : Addr} {odF2 anF2 : Option Addr} {slF2 : Array (Option Value)} {ocF2 kVF2 dcF2 pmF2 cdF2 ctF2 : Value} {fF3 : Addr} {odF3 anF3 : Option Addr} {slF3 : Array (Option Value)} {ocF3 kVF3 dcF3 pmF3 cdF3 ctF3 : Value} {fF4 : Addr} {odF4 anF4 : Option Addr} {slF4 : Array (Option Value)} {ocF4 kVF4 dcF4 pmF4 cdF4 ctF4 : Value} {fF5 : Addr} {odF5 anF5 : Option Addr} {slF5 : Array (Option Value)} {ocF5 kVF5 dcF5 pmF5 cdF5 ctF5 : Value} {fF6 : Addr} {odF6 anF6 : Option Addr} {slF6 : Array (Option Value)} {ocF6 kVF6 dcF6 pmF6 cdF6 ctF6 : Value} {fF7 : Addr} {odF7 anF7 : Option Addr} {slF7 : Array (Option Value)} {ocF7 kVF7 dcF7 pmF7 cdF7 ctF7 : Value} {fIR : Addr} {odIR anIR : Option Addr} {slIR : Array (Option Value)} {ocIR kVIR dcIR pmIR cdIR ctIR : Value} {fAT : Addr} {odAT anAT : Option Addr} {slAT : Array (Option Value)} {ocAT kVAT dcAT pmAT cdAT ctAT : Value} {fIO : Addr} {odIO anIO : Option Addr} {slIO : Array (Option Value)} {ocIO kVIO dcIO pmIO cdIO ctIO : Value} {fRO : Addr} {odRO anRO : Option Addr} {slRO : Array (Option Value)} {ocRO kVRO dcRO pmRO cdRO ctRO : Value} {fFO : Addr} {odFO anFO : Option Addr} {slFO : Array (Option Value)} {ocFO kVFO dcFO pmFO cdFO ctFO : Value} {fP : Addr} {odP anP : Option Addr} {slP : Array (Option Value)} {ocP kVP dcP pmP cdP ctP : Value} {fT : Addr} {odT anT : Option Addr} {slT : Array (Option Value)} {ocT kVT dcT pmT cdT ctT : Value} {fN : Addr} {odN anN : Option Addr} {slN : Array (Option Value)} {ocN kVN dcN pmN cdN ctN : Value} {fSo : Addr} {odSo anSo : Option Addr} {slSo : Array (Option Value)} {ocSo kVSo dcSo pmSo cdSo ctSo : Value} {fD : Addr} {odD anD : Option Addr} {slD : Array (Option Value)} {ocD kVD dcD pmD cdD ctD : Value} {fNu : Addr} {odNu anNu : Option Addr} {slNu : Array (Option Value)} {ocNu kVNu dcNu pmNu cdNu ctNu : Value} {fSm : Addr} {odSm anSm : Option Addr} {slSm : Array (Option Value)} {ocSm kVSm dcSm pmSm cdSm ctSm : Value} {fRo : Addr} {odRo anRo : Option Addr} {slRo : Array (Option Value)} {ocRo kVRo dcRo pmRo cdRo ctRo : Value} {fU : Addr} {odU anU : Option Addr} {slU : Array (Option Value)} {ocU kVU dcU pmU cdU ctU : Value} {fLi : Addr} {odLi anLi : Option Addr} {slLi : Array (Option Value)} {ocLi kVLi dcLi pmLi cdLi ctLi : Value} {fM : Addr} {odM anM : Option Addr} {slM : Array (Option Value)} {ocM kVM dcM pmM cdM ctM : Value} {fL : Addr} {odL anL : Option Addr} {slL : Array (Option Value)} {ocL kVL dcL pmL cdL ctL : Value}
    {t_LONGEST : Tok}
    {t_LAST_DAY : Tok}
    {t_FEWEST_LANDS : Tok}
    {t_MOST_LANDS : Tok}
    {t_MOST_PART_ACRES : Tok}
    {t_MOST_INCHES : Tok}
    {t_MOST_PENCE : Tok}
    {t_MOST_SPADES : Tok}
    {t_ROW_DEPTH : Tok}
    {t_FORMS : Addr} {eF : Nat} {xk0 xk1 xk2 xk3 xk4 xk5 xk6 xk7 : Tok}
    (aIN : PySem.W.nsIn K mainGlobals "is_name" = some (some (.ref fIN))) (lIN : K.lookup fIN = some ⟨ocIN, odIN, .func (PySem.W.fnOf "is_name" "is_name" (defArgs sIsName) (defBody sIsName) (defScope sIsName) .none kVIN dcIN pmIN anIN cdIN ctIN), slIN⟩) (cIN : PySem.W.codeIn K cdIN "is_name" = true) (kIN : PySem.W.keepIn K (.ref fIN) = true)
    (aNB : PySem.W.nsIn K mainGlobals "is_number" = some (some (.ref fNB))) (lNB : K.lookup fNB = some ⟨ocNB, odNB, .func (PySem.W.fnOf "is_number" "is_number" (defArgs sIsNumber) (defBody sIsNumber) (defScope sIsNumber) .none kVNB dcNB pmNB anNB cdNB ctNB), slNB⟩) (cNB : PySem.W.codeIn K cdNB "is_number" = true) (kNB : PySem.W.keepIn K (.ref fNB) = true)
    (aIW : PySem.W.nsIn K mainGlobals "is_whole" = some (some (.ref fIW))) (lIW : K.lookup fIW = some ⟨ocIW, odIW, .func (PySem.W.fnOf "is_whole" "is_whole" (defArgs sIsWhole) (defBody sIsWhole) (defScope sIsWhole) .none kVIW dcIW pmIW anIW cdIW ctIW), slIW⟩) (cIW : PySem.W.codeIn K cdIW "is_whole" = true) (kIW : PySem.W.keepIn K (.ref fIW) = true)
    (aRI : PySem.W.nsIn K mainGlobals "is_rising" = some (some (.ref fRI))) (lRI : K.lookup fRI = some ⟨ocRI, odRI, .func (PySem.W.fnOf "is_rising" "is_rising" (defArgs sRising) (defBody sRising) (defScope sRising) .none kVRI dcRI pmRI anRI cdRI ctRI), slRI⟩) (cRI : PySem.W.codeIn K cdRI "is_rising" = true) (kRI : PySem.W.keepIn K (.ref fRI) = true)
    (aPT : PySem.W.nsIn K mainGlobals "is_part" = some (some (.ref fPT))) (lPT : K.lookup fPT = some ⟨ocPT, odPT, .func (PySem.W.fnOf "is_part" "is_part" (defArgs sIsPart) (defBody sIsPart) (defScope sIsPart) .none kVPT dcPT pmPT anPT cdPT ctPT), slPT⟩) (cPT : PySem.W.codeIn K cdPT "is_part" = true) (kPT : PySem.W.keepIn K (.ref fPT) = true)
    (aAP : PySem.W.nsIn K mainGlobals "all_parts" = some (some (.ref fAP))) (lAP : K.lookup fAP = some ⟨ocAP, odAP, .func (PySem.W.fnOf "all_parts" "all_parts" (defArgs sAllParts) (defBody sAllParts) (defScope sAllParts) .none kVAP dcAP pmAP anAP cdAP ctAP), slAP⟩) (cAP : PySem.W.codeIn K cdAP "all_parts" = true) (kAP : PySem.W.keepIn K (.ref fAP) = true)
    (aAN : PySem.W.nsIn K mainGlobals "all_names" = some (some (.ref fAN))) (lAN : K.lookup fAN = some ⟨ocAN, odAN, .func (PySem.W.fnOf "all_names" "all_names" (defArgs sAllNames) (defBody sAllNames) (defScope sAllNames) .none kVAN dcAN pmAN anAN cdAN ctAN), slAN⟩) (cAN : PySem.W.codeIn K cdAN "all_names" = true) (kAN : PySem.W.keepIn K (.ref fAN) = true)
    (aRP : PySem.W.nsIn K mainGlobals "are_parts" = some (some (.ref fRP))) (lRP : K.lookup fRP = some ⟨ocRP, odRP, .func (PySem.W.fnOf "are_parts" "are_parts" (defArgs sAreParts) (defBody sAreParts) (defScope sAreParts) .none kVRP dcRP pmRP anRP cdRP ctRP), slRP⟩) (cRP : PySem.W.codeIn K cdRP "are_parts" = true) (kRP : PySem.W.keepIn K (.ref fRP) = true)
    (aRL : PySem.W.nsIn K mainGlobals "are_lands" = some (some (.ref fRL))) (lRL : K.lookup fRL = some ⟨ocRL, odRL, .func (PySem.W.fnOf "are_lands" "are_lands" (defArgs sAreLands) (defBody sAreLands) (defScope sAreLands) .none kVRL dcRL pmRL anRL cdRL ctRL), slRL⟩) (cRL : PySem.W.codeIn K cdRL "are_lands" = true) (kRL : PySem.W.keepIn K (.ref fRL) = true)
    (aIC : PySem.W.nsIn K mainGlobals "is_inch" = some (some (.ref fIC))) (lIC : K.lookup fIC = some ⟨ocIC, odIC, .func (PySem.W.fnOf "is_inch" "is_inch" (defArgs sIsInch) (defBody sIsInch) (defScope sIsInch) .none kVIC dcIC pmIC anIC cdIC ctIC), slIC⟩) (cIC : PySem.W.codeIn K cdIC "is_inch" = true) (kIC : PySem.W.keepIn K (.ref fIC) = true)
    (aF0 : PySem.W.nsIn K mainGlobals "fits_part" = some (some (.ref fF0))) (lF0 : K.lookup fF0 = some ⟨ocF0, odF0, .func (PySem.W.fnOf "fits_part" "fits_part" (defArgs sFPart) (defBody sFPart) (defScope sFPart) .none kVF0 dcF0 pmF0 anF0 cdF0 ctF0), slF0⟩) (cF0 : PySem.W.codeIn K cdF0 "fits_part" = true) (kF0 : PySem.W.keepIn K (.ref fF0) = true)
    (aF1 : PySem.W.nsIn K mainGlobals "fits_join" = some (some (.ref fF1))) (lF1 : K.lookup fF1 = some ⟨ocF1, odF1, .func (PySem.W.fnOf "fits_join" "fits_join" (defArgs sFJoin) (defBody sFJoin) (defScope sFJoin) .none kVF1 dcF1 pmF1 anF1 cdF1 ctF1), slF1⟩) (cF1 : PySem.W.codeIn K cdF1 "fits_join" = true) (kF1 : PySem.W.keepIn K (.ref fF1) = true)
    (aF2 : PySem.W.nsIn K mainGlobals "fits_forfeit" = some (some (.ref fF2))) (lF2 : K.lookup fF2 = some ⟨ocF2, odF2, .func (PySem.W.fnOf "fits_forfeit" "fits_forfeit" (defArgs sFForfeit) (defBody sFForfeit) (defScope sFForfeit) .none kVF2 dcF2 pmF2 anF2 cdF2 ctF2), slF2⟩) (cF2 : PySem.W.codeIn K cdF2 "fits_forfeit" = true) (kF2 : PySem.W.keepIn K (.ref fF2) = true)
    (aF3 : PySem.W.nsIn K mainGlobals "fits_measure" = some (some (.ref fF3))) (lF3 : K.lookup fF3 = some ⟨ocF3, odF3, .func (PySem.W.fnOf "fits_measure" "fits_measure" (defArgs sFMeasure) (defBody sFMeasure) (defScope sFMeasure) .none kVF3 dcF3 pmF3 anF3 cdF3 ctF3), slF3⟩) (cF3 : PySem.W.codeIn K cdF3 "fits_measure" = true) (kF3 : PySem.W.keepIn K (.ref fF3) = true)
    (aF4 : PySem.W.nsIn K mainGlobals "fits_mend" = some (some (.ref fF4))) (lF4 : K.lookup fF4 = some ⟨ocF4, odF4, .func (PySem.W.fnOf "fits_mend" "fits_mend" (defArgs sFMend) (defBody sFMend) (defScope sFMend) .none kVF4 dcF4 pmF4 anF4 cdF4 ctF4), slF4⟩) (cF4 : PySem.W.codeIn K cdF4 "fits_mend" = true) (kF4 : PySem.W.keepIn K (.ref fF4) = true)
    (aF5 : PySem.W.nsIn K mainGlobals "fits_alone" = some (some (.ref fF5))) (lF5 : K.lookup fF5 = some ⟨ocF5, odF5, .func (PySem.W.fnOf "fits_alone" "fits_alone" (defArgs sFAlone) (defBody sFAlone) (defScope sFAlone) .none kVF5 dcF5 pmF5 anF5 cdF5 ctF5), slF5⟩) (cF5 : PySem.W.codeIn K cdF5 "fits_alone" = true) (kF5 : PySem.W.keepIn K (.ref fF5) = true)
    (aF6 : PySem.W.nsIn K mainGlobals "fits_breach" = some (some (.ref fF6))) (lF6 : K.lookup fF6 = some ⟨ocF6, odF6, .func (PySem.W.fnOf "fits_breach" "fits_breach" (defArgs sFBreach) (defBody sFBreach) (defScope sFBreach) .none kVF6 dcF6 pmF6 anF6 cdF6 ctF6), slF6⟩) (cF6 : PySem.W.codeIn K cdF6 "fits_breach" = true) (kF6 : PySem.W.keepIn K (.ref fF6) = true)
    (aF7 : PySem.W.nsIn K mainGlobals "fits_view" = some (some (.ref fF7))) (lF7 : K.lookup fF7 = some ⟨ocF7, odF7, .func (PySem.W.fnOf "fits_view" "fits_view" (defArgs sFView) (defBody sFView) (defScope sFView) .none kVF7 dcF7 pmF7 anF7 cdF7 ctF7), slF7⟩) (cF7 : PySem.W.codeIn K cdF7 "fits_view" = true) (kF7 : PySem.W.keepIn K (.ref fF7) = true)
    (aIR : PySem.W.nsIn K mainGlobals "is_row" = some (some (.ref fIR))) (lIR : K.lookup fIR = some ⟨ocIR, odIR, .func (PySem.W.fnOf "is_row" "is_row" (defArgs sIsRow) (defBody sIsRow) (defScope sIsRow) .none kVIR dcIR pmIR anIR cdIR ctIR), slIR⟩) (cIR : PySem.W.codeIn K cdIR "is_row" = true) (kIR : PySem.W.keepIn K (.ref fIR) = true)
    (aAT : PySem.W.nsIn K mainGlobals "as_tuples" = some (some (.ref fAT))) (lAT : K.lookup fAT = some ⟨ocAT, odAT, .func (PySem.W.fnOf "as_tuples" "as_tuples" (defArgs sAsTup) (defBody sAsTup) (defScope sAsTup) .none kVAT dcAT pmAT anAT cdAT ctAT), slAT⟩) (cAT : PySem.W.codeIn K cdAT "as_tuples" = true) (kAT : PySem.W.keepIn K (.ref fAT) = true)
    (aIO : PySem.W.nsIn K mainGlobals "in_order" = some (some (.ref fIO))) (lIO : K.lookup fIO = some ⟨ocIO, odIO, .func (PySem.W.fnOf "in_order" "in_order" (defArgs sInOrder) (defBody sInOrder) (defScope sInOrder) .none kVIO dcIO pmIO anIO cdIO ctIO), slIO⟩) (cIO : PySem.W.codeIn K cdIO "in_order" = true) (kIO : PySem.W.keepIn K (.ref fIO) = true)
    (aRO : PySem.W.nsIn K mainGlobals "row_of" = some (some (.ref fRO))) (lRO : K.lookup fRO = some ⟨ocRO, odRO, .func (PySem.W.fnOf "row_of" "row_of" (defArgs sRowOfP) (defBody sRowOfP) (defScope sRowOfP) .none kVRO dcRO pmRO anRO cdRO ctRO), slRO⟩) (cRO : PySem.W.codeIn K cdRO "row_of" = true) (kRO : PySem.W.keepIn K (.ref fRO) = true)
    (aFO : PySem.W.nsIn K mainGlobals "field_of" = some (some (.ref fFO))) (lFO : K.lookup fFO = some ⟨ocFO, odFO, .func (PySem.W.fnOf "field_of" "field_of" (defArgs sFieldOf) (defBody sFieldOf) (defScope sFieldOf) .none kVFO dcFO pmFO anFO cdFO ctFO), slFO⟩) (cFO : PySem.W.codeIn K cdFO "field_of" = true) (kFO : PySem.W.keepIn K (.ref fFO) = true)
    (aP : PySem.W.nsIn K mainGlobals "_law_pen" = some (some (.ref fP))) (lP : K.lookup fP = some ⟨ocP, odP, .func (PySem.W.fnOf "_law_pen" "_law_pen" (defArgs sPen) (defBody sPen) (defScope sPen) .none kVP dcP pmP anP cdP ctP), slP⟩) (cP : PySem.W.codeIn K cdP "_law_pen" = true) (kP : PySem.W.keepIn K (.ref fP) = true)
    (aT : PySem.W.nsIn K mainGlobals "_law_take" = some (some (.ref fT))) (lT : K.lookup fT = some ⟨ocT, odT, .func (PySem.W.fnOf "_law_take" "_law_take" (defArgs sTake) (defBody sTake) (defScope sTake) .none kVT dcT pmT anT cdT ctT), slT⟩) (cT : PySem.W.codeIn K cdT "_law_take" = true) (kT : PySem.W.keepIn K (.ref fT) = true)
    (aN : PySem.W.nsIn K mainGlobals "_law_names" = some (some (.ref fN))) (lN : K.lookup fN = some ⟨ocN, odN, .func (PySem.W.fnOf "_law_names" "_law_names" (defArgs sNames) (defBody sNames) (defScope sNames) .none kVN dcN pmN anN cdN ctN), slN⟩) (cN : PySem.W.codeIn K cdN "_law_names" = true) (kN : PySem.W.keepIn K (.ref fN) = true)
    (aSo : PySem.W.nsIn K mainGlobals "_law_sorts" = some (some (.ref fSo))) (lSo : K.lookup fSo = some ⟨ocSo, odSo, .func (PySem.W.fnOf "_law_sorts" "_law_sorts" (defArgs sSorts) (defBody sSorts) (defScope sSorts) .none kVSo dcSo pmSo anSo cdSo ctSo), slSo⟩) (cSo : PySem.W.codeIn K cdSo "_law_sorts" = true) (kSo : PySem.W.keepIn K (.ref fSo) = true)
    (aD : PySem.W.nsIn K mainGlobals "_law_days" = some (some (.ref fD))) (lD : K.lookup fD = some ⟨ocD, odD, .func (PySem.W.fnOf "_law_days" "_law_days" (defArgs sDays) (defBody sDays) (defScope sDays) .none kVD dcD pmD anD cdD ctD), slD⟩) (cD : PySem.W.codeIn K cdD "_law_days" = true) (kD : PySem.W.keepIn K (.ref fD) = true)
    (aNu : PySem.W.nsIn K mainGlobals "_law_number" = some (some (.ref fNu))) (lNu : K.lookup fNu = some ⟨ocNu, odNu, .func (PySem.W.fnOf "_law_number" "_law_number" (defArgs sNumber) (defBody sNumber) (defScope sNumber) .none kVNu dcNu pmNu anNu cdNu ctNu), slNu⟩) (cNu : PySem.W.codeIn K cdNu "_law_number" = true) (kNu : PySem.W.keepIn K (.ref fNu) = true)
    (aSm : PySem.W.nsIn K mainGlobals "_law_some" = some (some (.ref fSm))) (lSm : K.lookup fSm = some ⟨ocSm, odSm, .func (PySem.W.fnOf "_law_some" "_law_some" (defArgs sSome) (defBody sSome) (defScope sSome) .none kVSm dcSm pmSm anSm cdSm ctSm), slSm⟩) (cSm : PySem.W.codeIn K cdSm "_law_some" = true) (kSm : PySem.W.keepIn K (.ref fSm) = true)
    (aRo : PySem.W.nsIn K mainGlobals "_law_row_of" = some (some (.ref fRo))) (lRo : K.lookup fRo = some ⟨ocRo, odRo, .func (PySem.W.fnOf "_law_row_of" "_law_row_of" (defArgs sRowOf) (defBody sRowOf) (defScope sRowOf) .none kVRo dcRo pmRo anRo cdRo ctRo), slRo⟩) (cRo : PySem.W.codeIn K cdRo "_law_row_of" = true) (kRo : PySem.W.keepIn K (.ref fRo) = true)
    (aU : PySem.W.nsIn K mainGlobals "_law_turned" = some (some (.ref fU))) (lU : K.lookup fU = some ⟨ocU, odU, .func (PySem.W.fnOf "_law_turned" "_law_turned" (defArgs sTurned) (defBody sTurned) (defScope sTurned) .none kVU dcU pmU anU cdU ctU), slU⟩) (cU : PySem.W.codeIn K cdU "_law_turned" = true) (kU : PySem.W.keepIn K (.ref fU) = true)
    (aLi : PySem.W.nsIn K mainGlobals "_law_listed" = some (some (.ref fLi))) (lLi : K.lookup fLi = some ⟨ocLi, odLi, .func (PySem.W.fnOf "_law_listed" "_law_listed" (defArgs sListed) (defBody sListed) (defScope sListed) .none kVLi dcLi pmLi anLi cdLi ctLi), slLi⟩) (cLi : PySem.W.codeIn K cdLi "_law_listed" = true) (kLi : PySem.W.keepIn K (.ref fLi) = true)
    (aM : PySem.W.nsIn K mainGlobals "_law_made_right" = some (some (.ref fM))) (lM : K.lookup fM = some ⟨ocM, odM, .func (PySem.W.fnOf "_law_made_right" "_law_made_right" (defArgs sMade) (defBody sMade) (defScope sMade) .none kVM dcM pmM anM cdM ctM), slM⟩) (cM : PySem.W.codeIn K cdM "_law_made_right" = true) (kM : PySem.W.keepIn K (.ref fM) = true)
    (aL : PySem.W.nsIn K mainGlobals "law" = some (some (.ref fL))) (lL : K.lookup fL = some ⟨ocL, odL, .func (PySem.W.fnOf "law" "law" (defArgs sLaw) (defBody sLaw) (defScope sLaw) .none kVL dcL pmL anL cdL ctL), slL⟩) (cL : PySem.W.codeIn K cdL "law" = true) (kL : PySem.W.keepIn K (.ref fL) = true)
    (z_isinstance : PySem.W.nsIn K mainGlobals "isinstance" = some none)
    (z_str : PySem.W.nsIn K mainGlobals "str" = some none)
    (z_len : PySem.W.nsIn K mainGlobals "len" = some none)
    (z_all : PySem.W.nsIn K mainGlobals "all" = some none)
    (z_int : PySem.W.nsIn K mainGlobals "int" = some none)
    (z_bool : PySem.W.nsIn K mainGlobals "bool" = some none)
    (z_tuple : PySem.W.nsIn K mainGlobals "tuple" = some none)
    (z_set : PySem.W.nsIn K mainGlobals "set" = some none)
    (z_list : PySem.W.nsIn K mainGlobals "list" = some none)
    (z_sorted : PySem.W.nsIn K mainGlobals "sorted" = some none)
    (z_abs : PySem.W.nsIn K mainGlobals "abs" = some none)
    (z_range : PySem.W.nsIn K mainGlobals "range" = some none)
    (z_min : PySem.W.nsIn K mainGlobals "min" = some none)
    (z_repr : PySem.W.nsIn K mainGlobals "repr" = some none)
    (q_LONGEST : PySem.W.nsIn K mainGlobals "LONGEST" = some (some (.int 8 t_LONGEST)))
    (q_LAST_DAY : PySem.W.nsIn K mainGlobals "LAST_DAY" = some (some (.int 9999 t_LAST_DAY)))
    (q_FEWEST_LANDS : PySem.W.nsIn K mainGlobals "FEWEST_LANDS" = some (some (.int 2 t_FEWEST_LANDS)))
    (q_MOST_LANDS : PySem.W.nsIn K mainGlobals "MOST_LANDS" = some (some (.int 6 t_MOST_LANDS)))
    (q_MOST_PART_ACRES : PySem.W.nsIn K mainGlobals "MOST_PART_ACRES" = some (some (.int 10000000 t_MOST_PART_ACRES)))
    (q_MOST_INCHES : PySem.W.nsIn K mainGlobals "MOST_INCHES" = some (some (.int 10000000 t_MOST_INCHES)))
    (q_MOST_PENCE : PySem.W.nsIn K mainGlobals "MOST_PENCE" = some (some (.int 1000000000 t_MOST_PENCE)))
    (q_MOST_SPADES : PySem.W.nsIn K mainGlobals "MOST_SPADES" = some (some (.int 1000000 t_MOST_SPADES)))
    (q_ROW_DEPTH : PySem.W.nsIn K mainGlobals "ROW_DEPTH" = some (some (.int 3 t_ROW_DEPTH)))
    (q_FORMS : PySem.W.nsIn K mainGlobals "FORMS" = some (some (.ref t_FORMS)))
    (lFm : K.lookup t_FORMS = some { cls := .type "dict", data := .dict #[⟨PyData.keyHash w.params "part", .str "part" xk0, .ref fF0⟩, ⟨PyData.keyHash w.params "join", .str "join" xk1, .ref fF1⟩, ⟨PyData.keyHash w.params "forfeit", .str "forfeit" xk2, .ref fF2⟩, ⟨PyData.keyHash w.params "measure", .str "measure" xk3, .ref fF3⟩, ⟨PyData.keyHash w.params "mend", .str "mend" xk4, .ref fF4⟩, ⟨PyData.keyHash w.params "alone", .str "alone" xk5, .ref fF5⟩, ⟨PyData.keyHash w.params "breach", .str "breach" xk6, .ref fF6⟩, ⟨PyData.keyHash w.params "view", .str "view" xk7, .ref fF7⟩] eF }) (hzF : (t_FORMS == sysModules) = false)
    : ∃ fd : FuncData, (∀ (s : Shared) (v : Value), BindsTo s fd ⟨[v], []⟩ [("_law_script", v)]) ∧ ∀ base : Heap, K.In base → base.Ns mainGlobals mg → FnOk l.prog w K mg base CX0 10 fa fd ["_law_script"] (spLaw K) := by
  have e := hfa.symm.trans (PySem.W.mg_of X G aL)
  cases e
  have FIN := fun_mk (st := sIsName) lIN cIN kIN
  have mIN := PySem.W.mg_of X G aIN
  have bIN := FIN.binds (ps := ["thing"]) fun _ _ _ _ _ _ us hl => by obtain ⟨_, rfl⟩ := len1 hl; rfl
  have FNB := fun_mk (st := sIsNumber) lNB cNB kNB
  have mNB := PySem.W.mg_of X G aNB
  have bNB := FNB.binds (ps := ["thing"]) fun _ _ _ _ _ _ us hl => by obtain ⟨_, rfl⟩ := len1 hl; rfl
  have FIW := fun_mk (st := sIsWhole) lIW cIW kIW
  have mIW := PySem.W.mg_of X G aIW
  have bIW := FIW.binds (ps := ["thing", "least", "most"]) fun _ _ _ _ _ _ us hl => by obtain ⟨_, _, _, rfl⟩ := len3 hl; rfl
  have FRI := fun_mk (st := sRising) lRI cRI kRI
  have mRI := PySem.W.mg_of X G aRI
  have bRI := FRI.binds (ps := ["things"]) fun _ _ _ _ _ _ us hl => by obtain ⟨_, rfl⟩ := len1 hl; rfl
  have FPT := fun_mk (st := sIsPart) lPT cPT kPT
  have mPT := PySem.W.mg_of X G aPT
  have bPT := FPT.binds (ps := ["thing"]) fun _ _ _ _ _ _ us hl => by obtain ⟨_, rfl⟩ := len1 hl; rfl
  have FAP := fun_mk (st := sAllParts) lAP cAP kAP
  have mAP := PySem.W.mg_of X G aAP
  have bAP := FAP.binds (ps := ["thing"]) fun _ _ _ _ _ _ us hl => by obtain ⟨_, rfl⟩ := len1 hl; rfl
  have FAN := fun_mk (st := sAllNames) lAN cAN kAN
  have mAN := PySem.W.mg_of X G aAN
  have bAN := FAN.binds (ps := ["thing"]) fun _ _ _ _ _ _ us hl => by obtain ⟨_, rfl⟩ := len1 hl; rfl
  have FRP := fun_mk (st := sAreParts) lRP cRP kRP
  have mRP := PySem.W.mg_of X G aRP
  have bRP := FRP.binds (ps := ["thing"]) fun _ _ _ _ _ _ us hl => by obtain ⟨_, rfl⟩ := len1 hl; rfl
  have FRL := fun_mk (st := sAreLands) lRL cRL kRL
  have mRL := PySem.W.mg_of X G aRL
  have bRL := FRL.binds (ps := ["thing"]) fun _ _ _ _ _ _ us hl => by obtain ⟨_, rfl⟩ := len1 hl; rfl
  have FIC := fun_mk (st := sIsInch) lIC cIC kIC
  have mIC := PySem.W.mg_of X G aIC
  have bIC := FIC.binds (ps := ["thing"]) fun _ _ _ _ _ _ us hl => by obtain ⟨_, rfl⟩ := len1 hl; rfl
  have FF0 := fun_mk (st := sFPart) lF0 cF0 kF0
  have mF0 := PySem.W.mg_of X G aF0
  have bF0 := FF0.binds (ps := ["rest"]) fun _ _ _ _ _ _ us hl => by obtain ⟨_, rfl⟩ := len1 hl; rfl
  have FF1 := fun_mk (st := sFJoin) lF1 cF1 kF1
  have mF1 := PySem.W.mg_of X G aF1
  have bF1 := FF1.binds (ps := ["rest"]) fun _ _ _ _ _ _ us hl => by obtain ⟨_, rfl⟩ := len1 hl; rfl
  have FF2 := fun_mk (st := sFForfeit) lF2 cF2 kF2
  have mF2 := PySem.W.mg_of X G aF2
  have bF2 := FF2.binds (ps := ["rest"]) fun _ _ _ _ _ _ us hl => by obtain ⟨_, rfl⟩ := len1 hl; rfl
  have FF3 := fun_mk (st := sFMeasure) lF3 cF3 kF3
  have mF3 := PySem.W.mg_of X G aF3
  have bF3 := FF3.binds (ps := ["rest"]) fun _ _ _ _ _ _ us hl => by obtain ⟨_, rfl⟩ := len1 hl; rfl
  have FF4 := fun_mk (st := sFMend) lF4 cF4 kF4
  have mF4 := PySem.W.mg_of X G aF4
  have bF4 := FF4.binds (ps := ["rest"]) fun _ _ _ _ _ _ us hl => by obtain ⟨_, rfl⟩ := len1 hl; rfl
  have FF5 := fun_mk (st := sFAlone) lF5 cF5 kF5
  have mF5 := PySem.W.mg_of X G aF5
  have bF5 := FF5.binds (ps := ["rest"]) fun _ _ _ _ _ _ us hl => by obtain ⟨_, rfl⟩ := len1 hl; rfl
  have FF6 := fun_mk (st := sFBreach) lF6 cF6 kF6
  have mF6 := PySem.W.mg_of X G aF6
  have bF6 := FF6.binds (ps := ["rest"]) fun _ _ _ _ _ _ us hl => by obtain ⟨_, rfl⟩ := len1 hl; rfl
  have FF7 := fun_mk (st := sFView) lF7 cF7 kF7
  have mF7 := PySem.W.mg_of X G aF7
  have bF7 := FF7.binds (ps := ["rest"]) fun _ _ _ _ _ _ us hl => by obtain ⟨_, rfl⟩ := len1 hl; rfl
  have FIR := fun_mk (st := sIsRow) lIR cIR kIR
  have mIR := PySem.W.mg_of X G aIR
  have bIR := FIR.binds (ps := ["thing"]) fun _ _ _ _ _ _ us hl => by obtain ⟨_, rfl⟩ := len1 hl; rfl
  have FAT := fun_mk (st := sAsTup) lAT cAT kAT
  have mAT := PySem.W.mg_of X G aAT
  have bAT := FAT.binds (ps := ["thing", "deep"]) fun _ _ _ _ _ _ us hl => by obtain ⟨_, _, rfl⟩ := len2 hl; rfl
  have FIO := fun_mk (st := sInOrder) lIO cIO kIO
  have mIO := PySem.W.mg_of X G aIO
  have bIO := FIO.binds (ps := ["thing"]) fun _ _ _ _ _ _ us hl => by obtain ⟨_, rfl⟩ := len1 hl; rfl
  have FRO := fun_mk (st := sRowOfP) lRO cRO kRO
  have mRO := PySem.W.mg_of X G aRO
  have bRO := FRO.binds (ps := ["thing"]) fun _ _ _ _ _ _ us hl => by obtain ⟨_, rfl⟩ := len1 hl; rfl
  have FFO := fun_mk (st := sFieldOf) lFO cFO kFO
  have mFO := PySem.W.mg_of X G aFO
  have bFO := FFO.binds (ps := ["row"]) fun _ _ _ _ _ _ us hl => by obtain ⟨_, rfl⟩ := len1 hl; rfl
  have FP := fun_mk (st := sPen) lP cP kP
  have mP := PySem.W.mg_of X G aP
  have bP := FP.binds (ps := ["_law_script"]) fun _ _ _ _ _ _ us hl => by obtain ⟨_, rfl⟩ := len1 hl; rfl
  have FT := fun_mk (st := sTake) lT cT kT
  have mT := PySem.W.mg_of X G aT
  have bT := FT.binds (ps := ["_law_pen_here", "_law_many"]) fun _ _ _ _ _ _ us hl => by obtain ⟨_, _, rfl⟩ := len2 hl; rfl
  have FN := fun_mk (st := sNames) lN cN kN
  have mN := PySem.W.mg_of X G aN
  have bN := FN.binds (ps := ["_law_pen_here", "_law_many"]) fun _ _ _ _ _ _ us hl => by obtain ⟨_, _, rfl⟩ := len2 hl; rfl
  have FSo := fun_mk (st := sSorts) lSo cSo kSo
  have mSo := PySem.W.mg_of X G aSo
  have bSo := FSo.binds (ps := ["_law_pen_here", "_law_fields", "_law_rows"]) fun _ _ _ _ _ _ us hl => by obtain ⟨_, _, _, rfl⟩ := len3 hl; rfl
  have FD := fun_mk (st := sDays) lD cD kD
  have mD := PySem.W.mg_of X G aD
  have bD := FD.binds (ps := ["_law_pen_here", "_law_many"]) fun _ _ _ _ _ _ us hl => by obtain ⟨_, _, rfl⟩ := len2 hl; rfl
  have FNu := fun_mk (st := sNumber) lNu cNu kNu
  have mNu := PySem.W.mg_of X G aNu
  have bNu := FNu.binds (ps := ["_law_pen_here", "_law_bottom", "_law_most"]) fun _ _ _ _ _ _ us hl => by obtain ⟨_, _, _, rfl⟩ := len3 hl; rfl
  have FSm := fun_mk (st := sSome) lSm cSm kSm
  have mSm := PySem.W.mg_of X G aSm
  have bSm := FSm.binds (ps := ["_law_pen_here", "_law_names_here", "_law_many"]) fun _ _ _ _ _ _ us hl => by obtain ⟨_, _, _, rfl⟩ := len3 hl; rfl
  have FRo := fun_mk (st := sRowOf) lRo cRo kRo
  have mRo := PySem.W.mg_of X G aRo
  have bRo := FRo.binds (ps := ["_law_pen_here", "_law_word", "_law_name", "_law_day", "_law_sorts_here"]) fun _ _ _ _ _ _ us hl => by obtain ⟨_, _, _, _, _, rfl⟩ := len5 hl; rfl
  have FU := fun_mk (st := sTurned) lU cU kU
  have mU := PySem.W.mg_of X G aU
  have bU := FU.binds (ps := ["_law_pen_here", "_law_some_here"]) fun _ _ _ _ _ _ us hl => by obtain ⟨_, _, rfl⟩ := len2 hl; rfl
  have FLi := fun_mk (st := sListed) lLi cLi kLi
  have mLi := PySem.W.mg_of X G aLi
  have bLi := FLi.binds (ps := ["_law_pen_here", "_law_row_here"]) fun _ _ _ _ _ _ us hl => by obtain ⟨_, _, rfl⟩ := len2 hl; rfl
  have FM := fun_mk (st := sMade) lM cM kM
  have mM := PySem.W.mg_of X G aM
  have bM := FM.binds (ps := ["_law_pen_here", "_law_row_here"]) fun _ _ _ _ _ _ us hl => by obtain ⟨_, _, rfl⟩ := len2 hl; rfl
  have FL := fun_mk (st := sLaw) lL cL kL
  have mL := PySem.W.mg_of X G aL
  have bL := FL.binds (ps := ["_law_script"]) fun _ _ _ _ _ _ us hl => by obtain ⟨_, rfl⟩ := len1 hl; rfl
  have n_isinstance := PySem.W.mg_none_of X G z_isinstance
  have n_str := PySem.W.mg_none_of X G z_str
  have n_len := PySem.W.mg_none_of X G z_len
  have n_all := PySem.W.mg_none_of X G z_all
  have n_int := PySem.W.mg_none_of X G z_int
  have n_bool := PySem.W.mg_none_of X G z_bool
  have n_tuple := PySem.W.mg_none_of X G z_tuple
  have n_set := PySem.W.mg_none_of X G z_set
  have n_list := PySem.W.mg_none_of X G z_list
  have n_sorted := PySem.W.mg_none_of X G z_sorted
  have n_abs := PySem.W.mg_none_of X G z_abs
  have n_range := PySem.W.mg_none_of X G z_range
  have n_min := PySem.W.mg_none_of X G z_min
  have n_repr := PySem.W.mg_none_of X G z_repr
  have g_LONGEST := PySem.W.mg_of X G q_LONGEST
  have g_LAST_DAY := PySem.W.mg_of X G q_LAST_DAY
  have g_FEWEST_LANDS := PySem.W.mg_of X G q_FEWEST_LANDS
  have g_MOST_LANDS := PySem.W.mg_of X G q_MOST_LANDS
  have g_MOST_PART_ACRES := PySem.W.mg_of X G q_MOST_PART_ACRES
  have g_MOST_INCHES := PySem.W.mg_of X G q_MOST_INCHES
  have g_MOST_PENCE := PySem.W.mg_of X G q_MOST_PENCE
  have g_MOST_SPADES := PySem.W.mg_of X G q_MOST_SPADES
  have g_ROW_DEPTH := PySem.W.mg_of X G q_ROW_DEPTH
  have g_FORMS := PySem.W.mg_of X G q_FORMS
  refine ⟨PySem.W.fnOf "law" "law" (defArgs sLaw) (defBody sLaw) (defScope sLaw) .none kVL dcL pmL anL cdL ctL, fun s v => .of_eq rfl, fun base _ _ => ?_⟩
  have T : Txt K mg := ⟨n_isinstance, n_str, n_len, n_all, n_int, n_bool, n_tuple, n_set, ⟨_, g_LONGEST⟩, ⟨_, g_LAST_DAY⟩, ⟨_, g_FEWEST_LANDS⟩, ⟨_, g_MOST_LANDS⟩, ⟨_, g_MOST_PART_ACRES⟩, ⟨_, g_MOST_INCHES⟩, ⟨_, g_MOST_PENCE⟩, ⟨_, g_MOST_SPADES⟩⟩
  have GT := ok_take (P := l.prog) (w := w) (base := base) FT n_len n_abs
  have GIN := fn_weak (ok_isName (P := l.prog) (w := w) (base := base) FIN T) name_weak
  have GNB := ok_numb (P := l.prog) (w := w) (base := base) FNB T
  have GIW := ok_isWhole FIW GNB mNB kNB bNB
  have GRI := ok_rising (P := l.prog) (w := w) (base := base) FRI T n_list n_sorted
  have GPT := ok_part FPT T GIN mIN kIN bIN GIW mIW kIW bIW
  have GIC := ok_inch FIC T GIW mIW kIW bIW
  have GAP := ok_allP FAP T GPT mPT kPT bPT
  have GAN := ok_allN FAN T GIN mIN kIN bIN
  have GRP := ok_areP FRP T GAP mAP kAP bAP GRI mRI kRI bRI
  have GRL := ok_areL FRL T GAN mAN kAN bAN GRI mRI kRI bRI
  have GF0 := ok_fPart FF0 T GIN mIN kIN bIN GRP mRP kRP bRP
  have GF1 := ok_fJoin FF1 T GIN mIN kIN bIN GRL mRL kRL bRL
  have GF2 := ok_fForfeit FF2 T GAN mAN kAN bAN
  have GF3 := ok_fMeasure FF3 T GIN mIN kIN bIN GIW mIW kIW bIW
  have GF4 := ok_fMend FF4 T GAN mAN kAN bAN
  have GF5 := ok_fAlone FF5 T GIN mIN kIN bIN
  have GF6 := ok_fBreach FF6 T GIN mIN kIN bIN GIW mIW kIW bIW GIC mIC kIC bIC
  have GF7 := ok_fView FF7 T GIN mIN kIN bIN GIC mIC kIC bIC
  have GIR := ok_isRow FIR T (fm_dict lFm) (fm_rel fF0 fF1 fF2 fF3 fF4 fF5 fF6 fF7) hzF g_FORMS (fm_in fF0 fF1 fF2 fF3 fF4 fF5 fF6 fF7) (fm_fn GF0 kF0 bF0 GF1 kF1 bF1 GF2 kF2 bF2 GF3 kF3 bF3 GF4 kF4 bF4 GF5 kF5 bF5 GF6 kF6 bF6 GF7 kF7 bF7) GIN mIN kIN bIN GIW mIW kIW bIW
  have GAT := ok_asS FAT T n_list mAT kAT bAT (ok_asS FAT T n_list mAT kAT bAT (ok_asS FAT T n_list mAT kAT bAT (ok_as0 (P := l.prog) (w := w) (base := base) FAT T n_list mAT kAT bAT)))
  have GIO := ok_ord FIO T n_sorted GAP mAP kAP bAP GAN mAN kAN bAN
  have GRO := ok_rowOfP FRO ⟨_, g_ROW_DEPTH⟩ GAT mAT kAT bAT GIO mIO kIO bIO GIR mIR kIR bIR
  have GFO := ok_fieldOf (P := l.prog) (w := w) (mg := mg) (base := base) FFO
  have GN := ok_names FN n_len n_range n_min GT mT kT bT
  have GSo := ok_sorts FSo GT mT kT bT GN mN kN bN
  have GNu := ok_num FNu n_min GT mT kT bT
  have GD := ok_days FD n_range n_len n_int GT mT kT bT
  have GSm := ok_some FSm n_list n_range n_sorted n_len GT mT kT bT
  have GRo := ok_rowOf FRo n_len n_tuple GT mT kT bT GNu mNu kNu bNu GSm mSm kSm bSm
  have GU := ok_turned FU n_list n_range n_len GT mT kT bT
  have GLi := ok_listed FLi T n_list n_range GT mT kT bT GU mU kU bU
  have GM := ok_made FM T n_list n_range n_repr GLi mLi kLi bLi GRO mRO kRO bRO
  exact ok_law FL n_range (ok_pen FP n_list) mP kP bP GT mT kT bT GSo mSo kSo bSo GD mD kD bD GRo mRo kRo bRo GIR mIR kIR bIR GM mM kM bM GFO mFO kFO bFO
theorem walk {l : PySem.W.OpenLaw} {q : Program} {loose : List Str} {XP : (Str → Option Value) → Heap → Prop} {YP : World → Heap → Prop} {d : DefRec} {K : Params → PySem.W.Frag} (hn : l.most = some 63) (hdf : d.params.defaults = [])
    (hY : ∀ (w : World) (h : Heap), YP w h → (K w.params).In h)
    (F : ∀ (w : World) (mg : Str → Option Value) (fa : Addr) (h : Heap), (K w.params).In h → h.Ns mainGlobals mg → mg d.name = some (.ref fa) →
      ∃ fd : FuncData, (∀ (s : Shared) (u : Value), BindsTo s fd ⟨[u], []⟩ [("_law_script", u)]) ∧ ∀ base : Heap, (K w.params).In base → base.Ns mainGlobals mg → FnOk l.prog w (K w.params) mg base CX0 10 fa fd ["_law_script"] (spLaw (K w.params))) :
    PySem.W.WalkO q loose XP YP l.row.toRowW d [] (fun f vs => PySem.call f vs) :=
  L2.walk_of (n := 63) (k := 10) (x := "_law_script") (CX := fun _ => CX0) (sp := fun w => spLaw (K w.params)) hn (by decide) hdf ⟨rfl, by decide, by decide, rfl⟩ hY F (fun _ _ a ns hl _ hS => ⟨a, ns, rfl, hS, hl, fun _ => rfl⟩) fun _ _ _ _ _ z => z
end K3
open PySem PySem.W PyProof.Rows
set_option maxRecDepth 100000 in
set_option maxHeartbeats 0 in
theorem PySem.Challenge.cw_dykelengths_k03_rows_known_holds : PySem.Challenge.rw_dykelengths_k03_rows_known.Holds := by
  w_on; o_law; k_head; (case hw => w_witness2)
  k_fill
  refine K3.walk (l := PySem.Challenge.rw_dykelengths_k03_rows_known) rfl rfl (fun w h Y => PySem.W.kIn_of Y) ?F
  case F =>
    intro w mg fa h KX G hmg
    refine' K3.all_mk KX G hmg ?aIN ?lIN ?cIN ?kIN ?aNB ?lNB ?cNB ?kNB ?aIW ?lIW ?cIW ?kIW ?aRI ?lRI ?cRI ?kRI ?aPT ?lPT ?cPT ?kPT ?aAP ?lAP ?cAP ?kAP ?aAN ?lAN ?cAN ?kAN ?aRP ?lRP ?cRP ?kRP ?aRL ?lRL ?cRL ?kRL ?aIC ?lIC ?cIC ?kIC ?aF0 ?lF0 ?cF0 ?kF0 ?aF1 ?lF1 ?cF1 ?kF1 ?aF2 ?lF2 ?cF2 ?kF2 ?aF3 ?lF3 ?cF3 ?kF3 ?aF4 ?lF4 ?cF4 ?kF4 ?aF5 ?lF5 ?cF5 ?kF5 ?aF6 ?lF6 ?cF6 ?kF6 ?aF7 ?lF7 ?cF7 ?kF7 ?aIR ?lIR ?cIR ?kIR ?aAT ?lAT ?cAT ?kAT ?aIO ?lIO ?cIO ?kIO ?aRO ?lRO ?cRO ?kRO ?aFO ?lFO ?cFO ?kFO ?aP ?lP ?cP ?kP ?aT ?lT ?cT ?kT ?aN ?lN ?cN ?kN ?aSo ?lSo ?cSo ?kSo ?aD ?lD ?cD ?kD ?aNu ?lNu ?cNu ?kNu ?aSm ?lSm ?cSm ?kSm ?aRo ?lRo ?cRo ?kRo ?aU ?lU ?cU ?kU ?aLi ?lLi ?cLi ?kLi ?aM ?lM ?cM ?kM ?aL ?lL ?cL ?kL ?z_isinstance ?z_str ?z_len ?z_all ?z_int ?z_bool ?z_tuple ?z_set ?z_list ?z_sorted ?z_abs ?z_range ?z_min ?z_repr ?q_LONGEST ?q_LAST_DAY ?q_FEWEST_LANDS ?q_MOST_LANDS ?q_MOST_PART_ACRES ?q_MOST_INCHES ?q_MOST_PENCE ?q_MOST_SPADES ?q_ROW_DEPTH ?q_FORMS ?lFm ?hzF
    (case aIN => k_is); (case lIN => k_is); (case cIN => k_is); (case kIN => k_is)
    (case aNB => k_is); (case lNB => k_is); (case cNB => k_is); (case kNB => k_is)
    (case aIW => k_is); (case lIW => k_is); (case cIW => k_is); (case kIW => k_is)
    (case aRI => k_is); (case lRI => k_is); (case cRI => k_is); (case kRI => k_is)
    (case aPT => k_is); (case lPT => k_is); (case cPT => k_is); (case kPT => k_is)
    (case aAP => k_is); (case lAP => k_is); (case cAP => k_is); (case kAP => k_is)
    (case aAN => k_is); (case lAN => k_is); (case cAN => k_is); (case kAN => k_is)
    (case aRP => k_is); (case lRP => k_is); (case cRP => k_is); (case kRP => k_is)
    (case aRL => k_is); (case lRL => k_is); (case cRL => k_is); (case kRL => k_is)
    (case aIC => k_is); (case lIC => k_is); (case cIC => k_is); (case kIC => k_is)
    (case aF0 => k_is); (case lF0 => k_is); (case cF0 => k_is); (case kF0 => k_is)
    (case aF1 => k_is); (case lF1 => k_is); (case cF1 => k_is); (case kF1 => k_is)
    (case aF2 => k_is); (case lF2 => k_is); (case cF2 => k_is); (case kF2 => k_is)
    (case aF3 => k_is); (case lF3 => k_is); (case cF3 => k_is); (case kF3 => k_is)
    (case aF4 => k_is); (case lF4 => k_is); (case cF4 => k_is); (case kF4 => k_is)
    (case aF5 => k_is); (case lF5 => k_is); (case cF5 => k_is); (case kF5 => k_is)
    (case aF6 => k_is); (case lF6 => k_is); (case cF6 => k_is); (case kF6 => k_is)
    (case aF7 => k_is); (case lF7 => k_is); (case cF7 => k_is); (case kF7 => k_is)
    (case aIR => k_is); (case lIR => k_is); (case cIR => k_is); (case kIR => k_is)
    (case aAT => k_is); (case lAT => k_is); (case cAT => k_is); (case kAT => k_is)
    (case aIO => k_is); (case lIO => k_is); (case cIO => k_is); (case kIO => k_is)
    (case aRO => k_is); (case lRO => k_is); (case cRO => k_is); (case kRO => k_is)
    (case aFO => k_is); (case lFO => k_is); (case cFO => k_is); (case kFO => k_is)
    (case aP => k_is); (case lP => k_is); (case cP => k_is); (case kP => k_is)
    (case aT => k_is); (case lT => k_is); (case cT => k_is); (case kT => k_is)
    (case aN => k_is); (case lN => k_is); (case cN => k_is); (case kN => k_is)
    (case aSo => k_is); (case lSo => k_is); (case cSo => k_is); (case kSo => k_is)
    (case aD => k_is); (case lD => k_is); (case cD => k_is); (case kD => k_is)
    (case aNu => k_is); (case lNu => k_is); (case cNu => k_is); (case kNu => k_is)
    (case aSm => k_is); (case lSm => k_is); (case cSm => k_is); (case kSm => k_is)
    (case aRo => k_is); (case lRo => k_is); (case cRo => k_is); (case kRo => k_is)
    (case aU => k_is); (case lU => k_is); (case cU => k_is); (case kU => k_is)
    (case aLi => k_is); (case lLi => k_is); (case cLi => k_is); (case kLi => k_is)
    (case aM => k_is); (case lM => k_is); (case cM => k_is); (case kM => k_is)
    (case aL => k_is); (case lL => k_is); (case cL => k_is); (case kL => k_is)
    (case z_isinstance => k_is); (case z_str => k_is); (case z_len => k_is); (case z_all => k_is)
    (case z_int => k_is); (case z_bool => k_is); (case z_tuple => k_is); (case z_set => k_is)
    (case z_list => k_is); (case z_sorted => k_is); (case z_abs => k_is); (case z_range => k_is)
    (case z_min => k_is); (case z_repr => k_is); (case q_LONGEST => k_is); (case q_LAST_DAY => k_is)
    (case q_FEWEST_LANDS => k_is); (case q_MOST_LANDS => k_is); (case q_MOST_PART_ACRES => k_is); (case q_MOST_INCHES => k_is)
    (case q_MOST_PENCE => k_is); (case q_MOST_SPADES => k_is); (case q_ROW_DEPTH => k_is); (case q_FORMS => k_is); (case lFm => k_is); (case hzF => first | rfl | decide)
