import PyProof.Rows.All
import Wide.All
import OpenK.AllK
import Wide.FinOn
import PyProof.EqAt
import PyProof.EqKinds
import PyProof.TupleCall
import KE.BitLaws
import Open.SpecLaws
import KE.OsHead
import KE.OsGo
import PyProof.Rows.SumAny
import PyProof.ConsumeWalk
import KE.KMinKey
import PyProof.Rows.CallKwBuiltin
import PyFlatLaws
import PyVafmtb
import PySem.Challenge.RW_widthlayout_s01_answers
set_option Elab.async false
set_option linter.all false
set_option maxRecDepth 100000
namespace L2
open PySem PySem.Spec PyProof.Rows
abbrev Key := Sum Int Str
def keyIs : Key → Value → Bool
 | .inl k, v => Value.isInt k v
 | .inr x, v => Value.isStrOf x v
def keyH (w : World) : Key → Int
 | .inl k => hashInt k
 | .inr x => hashStr w x
theorem keyIs_shape : ∀ {k : Key} {v : Value}, keyIs k v = true → (∃ i t, k = Sum.inl i ∧ v = Value.int i t) ∨ (∃ x t, k = Sum.inr x ∧ v = Value.str x t)
 | .inl i, v, h => by
  obtain ⟨t, e⟩ := Value.isInt_shape (k := i) (v := v) h
  exact .inl ⟨i, t, rfl, e⟩
 | .inr x, v, h => by
  obtain ⟨t, e⟩ := Value.isStrOf_shape (x := x) (v := v) h
  exact .inr ⟨x, t, rfl, e⟩
theorem key_ll (a b : Int) : decide ((Sum.inl a : Key) = Sum.inl b) = (a == b) := by
 by_cases e : a = b
 ·subst e; simp
 ·have h : ¬ (Sum.inl a : Key) = Sum.inl b := fun q => e (Sum.inl.inj q)
  rw [decide_eq_false h]
  exact (beq_eq_false_iff_ne.mpr e).symm
theorem key_rr (a b : Str) : decide ((Sum.inr a : Key) = Sum.inr b) = decide (a = b) := by
 by_cases e : a = b
 ·subst e; simp
 ·have h : ¬ (Sum.inr a : Key) = Sum.inr b := fun q => e (Sum.inr.inj q)
  rw [decide_eq_false h, decide_eq_false e]
theorem key_lr (a : Int) (b : Str) : decide ((Sum.inl a : Key) = Sum.inr b) = false := decide_eq_false (fun q => nomatch q)
theorem key_rl (a : Str) (b : Int) : decide ((Sum.inr a : Key) = Sum.inl b) = false := decide_eq_false (fun q => nomatch q)
def mixKind (prog : Program) (w : World) : PySem.KeyKind prog w Key where
 is := keyIs
 hash := keyH w
 inj := fun v a b ha hb => by
  rcases keyIs_shape ha with ⟨i, t, rfl, rfl⟩ | ⟨x, t, rfl, rfl⟩
  ·rcases keyIs_shape hb with ⟨j, u, rfl, e⟩ | ⟨y, u, rfl, e⟩
   ·injection e with e1 _; rw [e1]
   ·exact nomatch e
  ·rcases keyIs_shape hb with ⟨j, u, rfl, e⟩ | ⟨y, u, rfl, e⟩
   ·exact nomatch e
   ·injection e with e1 _; rw [e1]
 byValue := fun k v h => by
  rcases keyIs_shape h with ⟨i, t, rfl, rfl⟩ | ⟨x, t, rfl, rfl⟩ <;> rfl
 pyHash := fun hv h => by
  rcases keyIs_shape hv with ⟨i, t, rfl, rfl⟩ | ⟨x, t, rfl, rfl⟩
  ·exact wpAny_pyHash_int h
  ·exact wpAny_pyHash_str h
 eqBool := fun hu hv h => by
  rcases keyIs_shape hu with ⟨i, t, rfl, rfl⟩ | ⟨x, t, rfl, rfl⟩
  ·rcases keyIs_shape hv with ⟨j, u, rfl, rfl⟩ | ⟨y, u, rfl, rfl⟩
   ·rw [key_ll] at h; exact wpAny_eqBool_int h
   ·rw [key_lr] at h; exact SeqAt.EqAt.int_str i t y u _ _ _ _ h
  ·rcases keyIs_shape hv with ⟨j, u, rfl, rfl⟩ | ⟨y, u, rfl, rfl⟩
   ·rw [key_rl] at h; exact SeqAt.EqAt.str_int x t j u _ _ _ _ h
   ·rw [key_rr] at h; exact wpAny_eqBool_str h
 «strs» := fun k x t v h => by
  rcases keyIs_shape h with ⟨i, u, rfl, e⟩ | ⟨y, u, rfl, e⟩
  ·exact nomatch e
  ·injection e with e1 _
   subst e1
   cases v <;> rfl
end L2
namespace L2
open PySem PySem.Spec PyProof.Rows
inductive V where
 | non | bl (b : Bool) | int (i : Int) | str (x : Str) | byt (b : Array UInt8) | flt (b : UInt64) | ref (a : Addr) | ty (n : String)
 deriving DecidableEq
def RelV : V → Value → Prop
 | .non, u => u = Value.none
 | .bl b, u => u = Value.bool b
 | .int i, u => ∃ t, u = Value.int i t
 | .str x, u => ∃ t, u = Value.str x t
 | .byt b, u => ∃ t, u = Value.bytes b t
 | .flt b, u => ∃ t, u = Value.float b t
 | .ref a, u => u = Value.ref a
 | .ty n, u => u = Value.type n
abbrev Vals : List V → List Value → Prop := Paired RelV
theorem Vals.length {xs : List V} {us : List Value} (r : Vals xs us) : xs.length = us.length := Paired.length r
theorem Vals.get : ∀ {xs : List V} {us : List Value} {i : Nat} {x : V}, Vals xs us → xs[i]? = some x → ∃ u, us[i]? = some u ∧ RelV x u
 | _, _, _, _, .nil, e => by simp at e
 | _, _, 0, _, .cons r _, e => by simp at e; subst e; exact ⟨_, rfl, r⟩
 | _, _, i + 1, x, .cons _ t, e => by
  obtain ⟨u, h1, h2⟩ := Vals.get (i := i) (x := x) t (by simpa using e)
  exact ⟨u, by simpa using h1, h2⟩
theorem Vals.set {x : V} {u : Value} (r : RelV x u) : ∀ {xs : List V} {us : List Value} (i : Nat), Vals xs us → Vals (xs.set i x) (us.set i u)
 | _, _, _, .nil => .nil
 | _, _, 0, .cons _ t => .cons r t
 | _, _, i + 1, .cons q t => .cons q (Vals.set r i t)
theorem Vals.append : ∀ {xs ys : List V} {us ws : List Value}, Vals xs us → Vals ys ws → Vals (xs ++ ys) (us ++ ws)
 | _, _, _, _, .nil, s => s
 | _, _, _, _, .cons r t, s => .cons r (Vals.append t s)
theorem Vals.take : ∀ {xs : List V} {us : List Value} (n : Nat), Vals xs us → Vals (xs.take n) (us.take n)
 | _, _, 0, _ => .nil
 | _, _, _ + 1, .nil => .nil
 | _, _, n + 1, .cons r t => .cons r (Vals.take n t)
theorem Vals.drop : ∀ {xs : List V} {us : List Value} (n : Nat), Vals xs us → Vals (xs.drop n) (us.drop n)
 | _, _, 0, r => r
 | _, _, _ + 1, .nil => .nil
 | _, _, n + 1, .cons _ t => Vals.drop n t
def RelO : Option V → Option Value → Prop
 | some v, some u => RelV v u
 | none, none => True
 | _, _ => False
def KV {κ : Type} : List (κ × V) → List (κ × Value) → Prop := Paired fun (p : κ × V) (q : κ × Value) => p.1 = q.1 ∧ RelV p.2 q.2
def kV : Key → V
 | .inl i => .int i
 | .inr x => .str x
inductive HO where
 /-- a list -/
 | lst (xs : List V)
 /-- a tuple (never changes) -/
 | tup (xs : List V)
 /-- a dict whose keys are ints and texts; one whose keys are tuples of ints and texts (the empty one is both) -/
 | dK (kvs : List (Key × V)) | dT (kvs : List (List Key × V))
 /-- a set of ints: its members, its size -/
 | set (S : Int → Bool) (n : Nat)
 /-- an instance of the class at C, its dict at dx, its attributes -/
 | ins (C dx : Addr) (fs : List (Str × V))
 /-- the dict of the instance at x -/
 | own (x : Addr)
 /-- the dict of an exception -/
 | xd (fs : List (Str × V))
 /-- a bound method, f of x -/
 | met (f x : Addr)
 /-- a range object lo, lo + 1, .. below hi -/
 | rng (lo hi : Int)
 /-- a thing that is known to the object (the script; a dict while a loop walks it): read, never written while it is so -/
 | frz (o : Obj) (u : HO)
 /-- a code object's table -/
 | tbl (ps : Array Value)
 /-- any other thing, by what is true of its one object (a def of one's own: SetO a S n := HO.ext fun h => ..) -/
 | ext (φ : Heap → Prop)
abbrev Hp := Addr → Option HO
def upd (H : Hp) (a : Addr) (o : HO) : Hp := fun b => if b = a then some o else H b
theorem upd_same {H : Hp} {a : Addr} {o : HO} : upd H a o a = some o := by unfold upd; rw [if_pos rfl]
theorem upd_ne {H : Hp} {a b : Addr} {o : HO} (h : b ≠ a) : upd H a o b = H b := by unfold upd; rw [if_neg h]
theorem upd_upd {H : Hp} {a : Addr} {o u : HO} : upd (upd H a o) a u = upd H a u := by
 funext b; unfold upd; split <;> rfl
theorem ne_of {H : Hp} {a b : Addr} {o u : HO} (h : H a = some o) (h' : H b = some u) (d : o ≠ u) : a ≠ b := by
 intro e; subst e; rw [h] at h'; exact d (Option.some.inj h')
theorem ne_of_none {H : Hp} {a b : Addr} {o : HO} (h : H a = some o) (h' : H b = none) : a ≠ b := by
 intro e; subst e; rw [h] at h'; cases h'
section
variable (P : Program) (w : World)
def ObjOk (H : Hp) (h : Heap) (a : Addr) : HO → Prop
 | .lst xs => xs.length ≤ sizeLine ∧ ∃ (its : List Value) (n : Nat), Vals xs its ∧ h.get? a = some { cls := .type "list", data := .seq its.toArray n }
 | .tup xs => xs.length ≤ sizeLine ∧ ∃ its : List Value, Vals xs its ∧ IsTup h a its.toArray
 | .dK kvs => kvs.length ≤ sizeLine ∧ (a == sysModules) = false ∧ ∃ vs, KV kvs vs ∧ h.DictOf (mixKind P w) a vs
 | .dT kvs => kvs.length ≤ sizeLine ∧ (a == sysModules) = false ∧ ∃ xs : List (List Key × Addr × Value),
   Paired (fun (p : List Key × V) (q : List Key × Addr × Value) => p.1 = q.1 ∧ H q.2.1 = some (.tup (p.1.map kV)) ∧ RelV p.2 q.2.2) kvs xs ∧
   ∃ o es ep, h.get? a = some o ∧ o.ExactDict ∧ o.data = .dict es ep ∧ es.toList = xs.map (entryOfKey (tupleKind (mixKind P w))) ∧ (xs.map (·.1)).Nodup
 | .set S n => h.SetOf (intKind P w) a S n
 | .ins C dx fs => H dx = some (.own a) ∧ fs.length ≤ 1000 ∧ dx ≠ a ∧ h.get? a = some (PySem.W.instObj C dx) ∧
   ∃ mA, h.Ns1 dx mA ∧ (∀ f, RelO (fs.lookup f) (mA f)) ∧ PySem.Within mA (fs.map (·.1))
 | .own _ => ∃ o, h.get? a = some o
 | .xd fs => ∃ mA, h.Ns1 a mA ∧ ∀ f, RelO (fs.lookup f) (mA f)
 | .rng lo hi => ∃ t u v, h.get? a = some { cls := .type "range", data := .fields #[.int lo t, .int hi u, .int 1 v] }
 | .frz o u => h.get? a = some o ∧ ObjOk H h a u
 | .tbl ps => h.get? a = some { cls := .none, data := .fields ps }
 | .met f x => h.get? a = some (PySem.W.methodObj (.ref f) (.ref x))
 | .ext φ => φ h ∧ (∃ o, h.get? a = some o) ∧ ∀ h1 h2 : Heap, φ h1 → (∀ o, h1.get? a = some o → h2.get? a = some o) → φ h2
def HOk (H : Hp) (h : Heap) : Prop := ∀ a o, H a = some o → ObjOk P w H h a o
end
section
variable {P : Program} {w : World} {H H' : Hp} {h h' : Heap} {a : Addr} {o : HO}
theorem ObjOk.lt (x : ObjOk P w H h a o) : a < h.objs.size := by
 cases o with
 | lst xs => obtain ⟨_, _, _, _, e⟩ := x; exact Heap.lt_size e
 | tup xs => obtain ⟨_, _, _, p⟩ := x; exact p.lt
 | dK kvs => obtain ⟨_, _, _, _, o, _, _, e, _⟩ := x; exact Heap.lt_size e
 | dT kvs => obtain ⟨_, _, _, _, o, _, _, e, _⟩ := x; exact Heap.lt_size e
 | set S n => obtain ⟨o, _, _, _, e, _⟩ := x; exact Heap.lt_size e
 | ins C dx fs => obtain ⟨_, _, _, e, _⟩ := x; exact Heap.lt_size e
 | own y => obtain ⟨_, e⟩ := x; exact Heap.lt_size e
 | xd fs => obtain ⟨_, ⟨_, _, _, e, _⟩, _⟩ := x; exact Heap.lt_size e
 | rng lo hi => obtain ⟨_, _, _, e⟩ := x; exact Heap.lt_size e
 | frz ob u => obtain ⟨e, _⟩ := x; exact Heap.lt_size e
 | tbl ps => exact Heap.lt_size (show h.get? a = some _ from x)
 | met f y => exact Heap.lt_size (show h.get? a = some _ from x)
 | ext φ => obtain ⟨_, ⟨_, e⟩, _⟩ := x; exact Heap.lt_size e
theorem Paired.mapP {α β : Type} {F G : α → β → Prop} : ∀ {l₁ : List α} {l₂ : List β}, Paired F l₁ l₂ → (∀ a b, F a b → G a b) → Paired G l₁ l₂
 | _, _, .nil, _ => .nil
 | _, _, .cons r t, f => .cons (f _ _ r) (Paired.mapP t f)
theorem ObjOk.stay (x : ObjOk P w H h a o) (k : ∀ b u, (b = a ∨ H b = some (.own a)) → h.get? b = some u → h'.get? b = some u)
  (ho : ∀ b, H b = some (.own a) → H' b = some (.own a)) (ht : ∀ b xs, H b = some (.tup xs) → H' b = some (.tup xs)) : ObjOk P w H' h' a o := by
 induction o with
 | lst xs => obtain ⟨z, its, n, r, e⟩ := x; exact ⟨z, its, n, r, k _ _ (.inl rfl) e⟩
 | tup xs => obtain ⟨z, its, r, ob, e, c⟩ := x; exact ⟨z, its, r, ob, k _ _ (.inl rfl) e, c⟩
 | dK kvs => obtain ⟨z, y, vs, r, ob, es, ep, e, c⟩ := x; exact ⟨z, y, vs, r, ob, es, ep, k _ _ (.inl rfl) e, c⟩
 | dT kvs =>
  obtain ⟨z, y, xs, r, ob, es, ep, e, c⟩ := x
  exact ⟨z, y, xs, Paired.mapP r fun p q z => ⟨z.1, ht _ _ z.2.1, z.2.2⟩, ob, es, ep, k _ _ (.inl rfl) e, c⟩
 | set S n => obtain ⟨ob, es, ep, t, e, c⟩ := x; exact ⟨ob, es, ep, t, k _ _ (.inl rfl) e, c⟩
 | ins C dx fs =>
  obtain ⟨d, z, ne, e, mA, ⟨od, es, ep, e2, c⟩, r⟩ := x
  exact ⟨ho _ d, z, ne, k _ _ (.inl rfl) e, mA, ⟨od, es, ep, k _ _ (.inr d) e2, c⟩, r⟩
 | own y => obtain ⟨ob, e⟩ := x; exact ⟨ob, k _ _ (.inl rfl) e⟩
 | xd fs => obtain ⟨mA, ⟨od, es, ep, e, c⟩, r⟩ := x; exact ⟨mA, ⟨od, es, ep, k _ _ (.inl rfl) e, c⟩, r⟩
 | rng lo hi => obtain ⟨t, u, v, e⟩ := x; exact ⟨t, u, v, k _ _ (.inl rfl) e⟩
 | frz ob u ih => obtain ⟨e, q⟩ := x; exact ⟨k _ _ (.inl rfl) e, ih q⟩
 | tbl ps =>
  have e : h.get? a = some { cls := .none, data := .fields ps } := x
  show h'.get? a = some { cls := .none, data := .fields ps }
  exact k a _ (.inl rfl) e
 | met f y =>
  have e : h.get? a = some (PySem.W.methodObj (.ref f) (.ref y)) := x
  show h'.get? a = some (PySem.W.methodObj (.ref f) (.ref y))
  exact k a _ (.inl rfl) e
 | ext φ => obtain ⟨p, ⟨o, e⟩, st⟩ := x; exact ⟨st _ _ p fun o q => k _ _ (.inl rfl) q, ⟨o, k _ _ (.inl rfl) e⟩, st⟩
theorem HOk.lt (x : HOk P w H h) (e : H a = some o) : a < h.objs.size := (x a o e).lt
theorem HOk.fresh (x : HOk P w H h) (e : h.objs.size ≤ a) : H a = none := by
 cases q : H a with
 | none => rfl
 | some u => exact absurd (Nat.lt_of_lt_of_le (x.lt q) e) (Nat.lt_irrefl _)
theorem HOk.kept (x : HOk P w H h) (k : ∀ b u, h.get? b = some u → h'.get? b = some u) : HOk P w H h' := fun a o e =>
 (x a o e).stay (fun b u _ q => k b u q) (fun _ q => q) fun _ _ q => q
theorem HOk.laid (x : HOk P w H h) (k : ∀ b u, h.get? b = some u → h'.get? b = some u) (hp : h.objs.size ≤ a) (new : ObjOk P w (upd H a o) h' a o) : HOk P w (upd H a o) h' := fun b u e => by
 have hn := x.fresh hp
 by_cases hb : b = a
 ·subst hb; rw [upd_same] at e; cases e; exact new
 ·rw [upd_ne hb] at e
  exact (x b u e).stay (fun c v _ q => k c v q) (fun c q => by rw [upd_ne (ne_of_none q hn)]; exact q) fun c xs q => by rw [upd_ne (ne_of_none q hn)]; exact q
end
def Rd (H : Hp) (a : Addr) (u : HO) : Prop := H a = some u ∨ ∃ o, H a = some (.frz o u)
theorem Rd.ok {P : Program} {w : World} {H : Hp} {h : Heap} {a : Addr} {u : HO} (r : Rd H a u) (x : HOk P w H h) : ObjOk P w H h a u := by
 rcases r with r | ⟨o, r⟩
 ·exact x a u r
 ·obtain ⟨_, q⟩ := x a _ r
  exact q
def Mut : Option HO → Prop
 | some (.lst _) => True
 | some (.dK _) => True
 | some (.dT _) => True
 | some (.set _ _) => True
 | some (.ins _ _ _) => True
 | some (.ext _) => True
 | _ => False
section
variable {P : Program} {w : World} {H : Hp} {h h' : Heap} {x e : Addr} {o' : HO}
theorem HOk.write (ok : HOk P w H h) (mu : Mut (H x)) (he : e = x ∨ H e = some (.own x)) (k : ∀ b u, b ≠ e → h.get? b = some u → h'.get? b = some u) (heo : ∃ u, h'.get? e = some u)
  (new : ObjOk P w (upd H x o') h' x o') : HOk P w (upd H x o') h' := fun b u q => by
 have nown : ∀ c y, H c = some (.own y) → c ≠ x := fun c y r z => by subst z; rw [r] at mu; exact mu
 have ntup : ∀ c xs, H c = some (.tup xs) → c ≠ x := fun c xs r z => by subst z; rw [r] at mu; exact mu
 by_cases hb : b = x
 ·subst hb; rw [upd_same] at q; cases q; exact new
 ·rw [upd_ne hb] at q
  by_cases hbe : b = e
  ·have q' : H b = some (.own x) := by
    rcases he with z | z
    ·exact absurd (hbe.trans z) hb
    ·rw [hbe]; exact z
   rw [q] at q'; cases q'
   obtain ⟨v, hv⟩ := heo
   exact ⟨v, by rw [hbe]; exact hv⟩
  ·refine (ok b u q).stay (fun c v hc r => k c v ?_ r) (fun c r => by rw [upd_ne (nown c b r)]; exact r) fun c xs r => by rw [upd_ne (ntup c xs r)]; exact r
   rcases hc with rfl | hc
   ·exact hbe
   ·rintro rfl
    rcases he with z | z
    ·exact nown c b hc z
    ·rw [hc] at z; cases z; exact hb rfl
end
structure Un (fs ex : List Addr) (H H' : Hp) (h h' : Heap) : Prop where
 keep : ∀ b o, h.get? b = some o → H b = none → b ∉ fs → b ∉ ex → h'.get? b = some o
 slot : ∀ b o, h.get? b = some o → H b = none → b ∈ fs → b ∉ ex → ∃ sl, h'.get? b = some { o with slots := sl }
 free : ∀ b o, h.get? b = some o → H b = none → b ∉ ex → H' b = none
 there : ∀ b o, h.get? b = some o → b ∉ ex → ∃ o', h'.get? b = some o'
 tups : ∀ b xs, H b = some (.tup xs) → H' b = some (.tup xs)
 frzs : ∀ b o u, H b = some (.frz o u) → H' b = some (.frz o u)
 tbls : ∀ b ps, H b = some (.tbl ps) → ∃ more, H' b = some (.tbl (ps ++ more))
section
variable {fs fs' ex ex' : List Addr} {H H1 H2 : Hp} {h h1 h2 h' : Heap} {a x e : Addr} {o : HO}
theorem Un.any (u : Un fs ex H H1 h h1) {b : Addr} {ob : Obj} (q : h.get? b = some ob) (n : H b = none) (hx : b ∉ ex) : ∃ sl, h1.get? b = some { ob with slots := sl } := by
 by_cases hb : b ∈ fs
 ·exact u.slot b ob q n hb hx
 ·exact ⟨ob.slots, u.keep b ob q n hb hx⟩
theorem Un.kept (k : ∀ b u, h.get? b = some u → h'.get? b = some u) : Un fs ex H H h h' :=
 ⟨fun b ob q _ _ _ => k b ob q, fun b ob q _ _ _ => ⟨ob.slots, k b ob q⟩, fun _ _ _ n _ => n, fun b ob q _ => ⟨ob, k b ob q⟩, fun _ _ q => q, fun _ _ _ q => q, fun _ ps q => ⟨#[], by rw [q]; simp⟩⟩
theorem Un.refl : Un fs ex H H h h := Un.kept fun _ _ q => q
theorem Un.laid (k : ∀ b u, h.get? b = some u → h'.get? b = some u) (hp : h.objs.size ≤ a) (hn : H a = none) : Un fs ex H (upd H a o) h h' where
 keep := fun b u q _ _ _ => k b u q
 slot := fun b u q _ _ _ => ⟨u.slots, k b u q⟩
 free := fun b u q n _ => by rw [upd_ne (Nat.ne_of_lt (Nat.lt_of_lt_of_le (Heap.lt_size q) hp))]; exact n
 there := fun b u q _ => ⟨u, k b u q⟩
 tups := fun b xs q => by rw [upd_ne (ne_of_none q hn)]; exact q
 frzs := fun b u xs q => by rw [upd_ne (ne_of_none q hn)]; exact q
 tbls := fun b ps q => ⟨#[], by rw [upd_ne (ne_of_none q hn), q]; simp⟩
theorem Un.write (mu : Mut (H x)) (he : e = x ∨ H e = some (.own x)) (k : ∀ b u, b ≠ e → h.get? b = some u → h'.get? b = some u) (heo : ∃ u, h'.get? e = some u) : Un fs ex H (upd H x o) h h' := by
 have hx : ∀ b, H b = none → b ≠ x := fun b n z => by subst z; rw [n] at mu; exact mu
 have hb : ∀ b, H b = none → b ≠ e := fun b n z => by
  subst z
  rcases he with r | r
  ·exact hx b n r
  ·rw [n] at r; cases r
 have hm : ∀ b u, H b = some u → ¬ Mut (some u) → b ≠ x := fun b u q nm z => by subst z; rw [q] at mu; exact nm mu
 refine ⟨fun b u q n _ _ => k b u (hb b n) q, fun b u q n _ _ => ⟨u.slots, k b u (hb b n) q⟩, fun b u q n _ => by rw [upd_ne (hx b n)]; exact n, fun b u q _ => ?_,
  fun b xs q => by rw [upd_ne (hm b _ q fun z => z)]; exact q, fun b u xs q => by rw [upd_ne (hm b _ q fun z => z)]; exact q, fun b ps q => ⟨#[], by rw [upd_ne (hm b _ q fun z => z), q]; simp⟩⟩
 by_cases hbe : b = e
 ·subst hbe; exact heo
 ·exact ⟨u, k b u hbe q⟩
end
def trk (h : Heap) (H : Hp) : List Addr := (List.range h.objs.size).filter fun a => (H a).isSome
def hidT (h : Heap) (H : Hp) : Heap := PySem.W.hideAll h (trk h H)
theorem hidT_size (h : Heap) (H : Hp) : (hidT h H).objs.size = h.objs.size := PySem.W.hideAll_size _ _
theorem hidT_get {h : Heap} {H : Hp} {b : Addr} {o : Obj} (e : h.get? b = some o) (n : H b = none) : (hidT h H).get? b = some o :=
 PySem.W.hideAll_get _ e fun hm => by
  have q : (H b).isSome = true := (List.mem_filter.mp hm).2
  rw [n] at q; simp at q
theorem of_hidT {h : Heap} {H : Hp} {b : Addr} {o : Obj} (e : (hidT h H).get? b = some o) : h.get? b = some o ∧ H b = none := by
 have e' : h.get? b = some o := PySem.W.of_hideAll (trk h H) e
 refine ⟨e', ?_⟩
 cases q : H b with
 | none => rfl
 | some x =>
  have hm : b ∈ trk h H := List.mem_filter.mpr ⟨List.mem_range.mpr (Heap.lt_size e'), by simp [q]⟩
  have z : (hidT h H).get? b = none := PySem.W.hideAll_none (trk h H) hm
  rw [z] at e; cases e
end L2
namespace L2
open PySem PySem.Spec PyProof.Rows
structure Mod (K : PySem.W.Frag) (mg : Str → Option Value) (base : Heap) : Prop where
 kin : K.In base
 glob : base.Ns mainGlobals mg
 blt : ∃ mb, base.Ns builtinsNs mb ∧ ∀ x : Str, x ≠ "__name__" → mb x = bootBuiltins x
 nolimit : base.NoLimit
structure Cx where
 prog : Program
 w : World
 K : PySem.W.Frag
 mg : Str → Option Value
 base : Heap
 A : Around
 N : List Str
 s_0 : Shared
 H_0 : Hp
 env : Env
 outer : List Env
 stack : List Env
 ex : List Addr
 fn : Str → Bool
 calm : Bool
 pn : List (Addr × Obj)
 xe : Value → Shared → Prop
def frs (l : List Env) : List Addr := l.filterMap (·.frame)
abbrev Cx.fs (X : Cx) : List Addr := frs X.outer
def Vis (sc : Scope) (x : Str) : Prop := sc.names.lookup x = some .local ∨ sc.names.lookup x = some .cell ∨ sc.names.lookup x = some .free
def Loc (sc : Scope) (x : Str) : Prop := sc.names.lookup x = some .local ∨ sc.names.lookup x = some .cell
def Look (env : Env) (h : Heap) (m : Str → Option Value) (x : Str) (u : Value) : Prop :=
 (env.kindOf x = some .local ∧ m x = some u) ∨ ((env.kindOf x = some .cell ∨ env.kindOf x = some .free) ∧ ∃ c, env.cells.lookup x = some c ∧ h.IsCell c (some u))
structure Cx.Ok (X : Cx) : Prop where
 mod : Mod X.K X.mg X.base
 kind : X.env.scope.kind = .function
 glob : X.env.globals = mainGlobals
 blt : X.env.builtins = builtinsNs
 above : X.s_0.heap.objs.size ≤ X.env.locals
 inj : ∀ x y c, X.env.cells.lookup x = some c → X.env.cells.lookup y = some c → x = y
 has : ∀ x, (X.env.kindOf x = some .cell ∨ X.env.kindOf x = some .free) → ∃ c, X.env.cells.lookup x = some c
 cab : ∀ x c, X.fn x = true → X.env.cells.lookup x = some c → X.s_0.heap.objs.size ≤ c
 hd : X.calm = true → X.A.handled = none
 frames : X.A.frames = some X.stack
 stk : X.stack = X.outer ∨ (X.stack = X.env :: X.outer ∧ X.env.frame = some X.env.locals)
 exf : ∀ b ∈ X.ex, b ≠ X.env.locals ∧ ∀ x c, X.env.cells.lookup x = some c → c ≠ b
 bs : ∀ b o, X.base.get? b = some o → X.s_0.heap.get? b = some o ∧ X.H_0 b = none
 bsz : X.base.objs.size ≤ X.s_0.heap.objs.size
 noex : ∀ b o, X.base.get? b = some o → b ∉ X.ex
 exfs : ∀ b ∈ X.ex, b ∉ X.fs
 funs : X.s_0.heap.FunFrames X.base X.outer
 frf : ∀ b ∈ X.fs, X.H_0 b = none
structure Inv (X : Cx) (pins : List (Addr × Obj)) (σ : List (Option V)) (H : Hp) (s : Shared) : Prop where
 ok : X.Ok
 os : s.os = X.s_0.os
 bare : AllBare s.gens
 base : Un X.fs X.ex X.H_0 H X.s_0.heap s.heap
 loc : ∃ m, s.heap.Ns X.env.locals m ∧ ∀ (i : Nat) (x : Str) (v : V), X.N[i]? = some x → σ[i]? = some (some v) → Vis X.env.scope x → ∃ u, RelV v u ∧ Look X.env s.heap m x u
 cell : ∀ x c, X.env.cells.lookup x = some c → ∃ v, s.heap.IsCell c v
 free : H X.env.locals = none
 freeC : ∀ x c, X.env.cells.lookup x = some c → H c = none
 pin : ∀ p ∈ X.pn ++ pins, s.heap.get? p.1 = some p.2 ∧ H p.1 = none ∧ p.1 ≠ X.env.locals ∧ p.1 ∉ X.fs ∧ ∀ v, p.2.data ≠ .cell v
 hok : HOk X.prog X.w H s.heap
 len : σ.length = X.N.length
section
variable {X : Cx} {pins : List (Addr × Obj)} {σ : List (Option V)} {H H' : Hp} {s : Shared} {h' : Heap}
theorem Cx.Ok.nofr (ok : X.Ok) {b : Addr} {o : Obj} (e : X.base.get? b = some o) : b ∉ X.fs := fun hb => by
 have := (ok.funs.mem hb).1
 rw [e] at this; cases this
theorem Inv.bs (I : Inv X pins σ H s) : ∀ b o, X.base.get? b = some o → s.heap.get? b = some o ∧ H b = none := fun b o e =>
 ⟨I.base.keep b o (I.ok.bs b o e).1 (I.ok.bs b o e).2 (I.ok.nofr e) (I.ok.noex b o e), I.base.free b o (I.ok.bs b o e).1 (I.ok.bs b o e).2 (I.ok.noex b o e)⟩
theorem Inv.bk (I : Inv X pins σ H s) : ∀ b o, X.base.get? b = some o → s.heap.get? b = some o := fun b o e => (I.bs b o e).1
theorem Inv.mod (I : Inv X pins σ H s) : Mod X.K X.mg X.base := I.ok.mod
theorem Inv.kIn (I : Inv X pins σ H s) : X.K.In s.heap := I.ok.mod.kin.keeps I.bk
theorem Inv.fr (I : Inv X pins σ H s) : ∃ m, Fr X.base X.env.locals s.heap m :=
 let ⟨m, hn, _⟩ := I.loc
 ⟨m, hn, I.bk, Nat.le_trans I.ok.bsz I.ok.above⟩
theorem Inv.lt (I : Inv X pins σ H s) : X.env.locals < s.heap.objs.size := let ⟨_, hn, _⟩ := I.loc; hn.lt
theorem Inv.sz (I : Inv X pins σ H s) : X.s_0.heap.objs.size ≤ s.heap.objs.size := Nat.le_trans I.ok.above (Nat.le_of_lt I.lt)
theorem Inv.nofs (I : Inv X pins σ H s) {a : Addr} (h : s.heap.objs.size ≤ a) : a ∉ X.fs := fun hb => by
 obtain ⟨_, o, ho, _⟩ := I.ok.funs.mem hb
 exact absurd (Nat.lt_of_lt_of_le (Heap.lt_size ho) (Nat.le_trans I.sz h)) (Nat.lt_irrefl _)
theorem Inv.cne (I : Inv X pins σ H s) : ∀ x c, X.env.cells.lookup x = some c → c ≠ X.env.locals := fun x c e z => by
 obtain ⟨v, o, ho, hd⟩ := I.cell x c e
 obtain ⟨m, ⟨o', es, ep, ho', hd', _⟩, _⟩ := I.loc
 rw [z, ho'] at ho; cases ho; rw [hd'] at hd; cases hd
theorem Inv.funs (I : Inv X pins σ H s) : s.heap.FunFrames X.base X.outer := by
 have all : ∀ (l : List Env), (∀ b ∈ frs l, b ∈ X.fs) → X.s_0.heap.FunFrames X.base l → s.heap.FunFrames X.base l := by
  intro l
  induction l with
  | nil => intro _ _; trivial
  | cons env r ih =>
   intro hs hl
   obtain ⟨hk, ⟨L, o, hf, hn, ho, hd⟩, hr⟩ := hl
   have hL : L ∈ X.fs := hs L (by unfold frs; rw [List.filterMap_cons, hf]; exact List.mem_cons_self)
   obtain ⟨sl, e⟩ := I.base.slot L o ho (I.ok.frf L hL) hL fun z => I.ok.exfs L z hL
   exact ⟨hk, ⟨L, _, hf, hn, e, hd⟩, ih (fun b hb => hs b (by unfold frs; rw [List.filterMap_cons, hf]; exact List.mem_cons_of_mem _ hb)) hr⟩
 exact all X.outer (fun _ hb => hb) I.ok.funs
theorem Inv.stack (I : Inv X pins σ H s) : s.heap.FunFrames X.base X.stack := by
 rcases I.ok.stk with e | ⟨e, hf⟩
 ·rw [e]; exact I.funs
 ·rw [e]
  obtain ⟨m, hn, _⟩ := I.loc
  refine .cons (by rw [I.ok.kind]; decide) hf hn ?_ I.funs
  exact Heap.get?_none_of_le (Nat.le_trans I.ok.bsz I.ok.above)
theorem Inv.stkSub (I : Inv X pins σ H s) : ∀ b ∈ frs X.stack, b ∈ X.env.locals :: X.fs := fun b hb => by
 rcases I.ok.stk with e | ⟨e, hf⟩
 ·rw [e] at hb; exact List.mem_cons_of_mem _ hb
 ·rw [e] at hb
  unfold frs at hb
  rw [List.filterMap_cons, hf] at hb
  exact hb
theorem Inv.stkFree (I : Inv X pins σ H s) : ∀ b ∈ frs X.stack, H b = none := fun b hb => by
 rcases List.mem_cons.mp (I.stkSub b hb) with e | hb
 ·rw [e]; exact I.free
 ·obtain ⟨_, o, ho, _⟩ := I.ok.funs.mem hb
  exact I.base.free b o ho (I.ok.frf b hb) fun z => I.ok.exfs b z hb
theorem Inv.step {g' : Array GenState} {t' : Nat} {d' : Drawn} {ch : List Addr} (I : Inv X pins σ H s)
  (hch : ∀ b ∈ ch, (b ∈ X.ex ∨ X.s_0.heap.objs.size ≤ b) ∧ b ≠ X.env.locals ∧ (∀ x c, X.env.cells.lookup x = some c → c ≠ b) ∧ ∀ p ∈ X.pn ++ pins, p.1 ≠ b)
  (keep : ∀ b o, b ≠ X.env.locals → b ∉ X.fs → b ∉ ch → s.heap.get? b = some o → H b = none → h'.get? b = some o)
  (slot : ∀ b o, b ≠ X.env.locals → b ∈ X.fs → b ∉ ch → s.heap.get? b = some o → H b = none → ∃ sl, h'.get? b = some { o with slots := sl }) (free : ∀ b o, b ∉ ch → s.heap.get? b = some o → H b = none → H' b = none)
  (there : ∀ b o, b ∉ ch → s.heap.get? b = some o → ∃ o', h'.get? b = some o')
  (tups : ∀ b xs, H b = some (.tup xs) → H' b = some (.tup xs)) (frzs : ∀ b o u, H b = some (.frz o u) → H' b = some (.frz o u)) (tbls : ∀ b ps, H b = some (.tbl ps) → ∃ more, H' b = some (.tbl (ps ++ more)))
  (ns : ∀ m, s.heap.Ns X.env.locals m → h'.Ns X.env.locals m) (hok : HOk X.prog X.w H' h') (hg : AllBare g') :
  Inv X pins σ H' { s with heap := h', gens := g', drawn := d', toks := t' } := by
 have neL : ∀ b o, X.s_0.heap.get? b = some o → b ≠ X.env.locals := fun b o e => Nat.ne_of_lt (Nat.lt_of_lt_of_le (Heap.lt_size e) I.ok.above)
 have neC : ∀ b o, X.s_0.heap.get? b = some o → b ∉ X.ex → b ∉ ch := fun b o e hx hb => by
  rcases (hch b hb).1 with z | z
  ·exact hx z
  ·exact absurd (Nat.lt_of_lt_of_le (Heap.lt_size e) z) (Nat.lt_irrefl _)
 have cellK : ∀ x c, X.env.cells.lookup x = some c → ∀ v, s.heap.IsCell c v → h'.IsCell c v := fun x c e v ⟨o, ho, hd⟩ => by
  have nch : c ∉ ch := fun z => (hch c z).2.2.1 x c e rfl
  by_cases hc : c ∈ X.fs
  ·obtain ⟨sl, q⟩ := slot c o (I.cne x c e) hc nch ho (I.freeC x c e)
   exact ⟨_, q, hd⟩
  ·exact ⟨o, keep c o (I.cne x c e) hc nch ho (I.freeC x c e), hd⟩
 refine ⟨I.ok, I.os, hg, ⟨fun b o e n hb hx => ?_, fun b o e n hb hx => ?_, fun b o e n hx => ?_, fun b o e hx => ?_, fun b xs e => tups b xs (I.base.tups b xs e), fun b o xs e => frzs b o xs (I.base.frzs b o xs e), fun b ps e => ?_⟩, ?_, fun x c e => ?_, ?_, fun x c e => ?_, fun p hp => ?_, hok, I.len⟩
 ·exact keep b o (neL b o e) hb (neC b o e hx) (I.base.keep b o e n hb hx) (I.base.free b o e n hx)
 ·obtain ⟨sl, e1⟩ := I.base.slot b o e n hb hx
  obtain ⟨sl', e2⟩ := slot b _ (neL b o e) hb (neC b o e hx) e1 (I.base.free b o e n hx)
  exact ⟨sl', e2⟩
 ·obtain ⟨o', e1⟩ := I.base.there b o e hx
  exact free b o' (neC b o e hx) e1 (I.base.free b o e n hx)
 ·obtain ⟨o', e1⟩ := I.base.there b o e hx
  exact there b o' (neC b o e hx) e1
 ·obtain ⟨m1, e1⟩ := I.base.tbls b ps e
  obtain ⟨m2, e2⟩ := tbls b _ e1
  exact ⟨m1 ++ m2, by rw [e2, Array.append_assoc]⟩
 ·obtain ⟨m, hn, hl⟩ := I.loc
  refine ⟨m, ns m hn, fun i x v e1 e2 e3 => ?_⟩
  obtain ⟨u, r, l⟩ := hl i x v e1 e2 e3
  refine ⟨u, r, ?_⟩
  rcases l with l | ⟨k, c, e, z⟩
  ·exact .inl l
  ·exact .inr ⟨k, c, e, cellK x c e _ z⟩
 ·obtain ⟨v, z⟩ := I.cell x c e
  exact ⟨v, cellK x c e v z⟩
 ·obtain ⟨m, ⟨o, _, _, ho, _⟩, _⟩ := I.loc
  exact free _ o (fun z => (hch _ z).2.1 rfl) ho I.free
 ·obtain ⟨v, o, ho, hd⟩ := I.cell x c e
  exact free c o (fun z => (hch c z).2.2.1 x c e rfl) ho (I.freeC x c e)
 ·obtain ⟨e, n, ne, nf, d⟩ := I.pin p hp
  have nch : p.1 ∉ ch := fun z => (hch p.1 z).2.2.2 p hp rfl
  exact ⟨keep p.1 p.2 ne nf nch e n, free p.1 p.2 nch e n, ne, nf, d⟩
theorem Inv.un {t' : Nat} (I : Inv X pins σ H s) (u : Un X.fs [] H H' s.heap h') (hok : HOk X.prog X.w H' h') : Inv X pins σ H' { s with heap := h', toks := t' } := by
 obtain ⟨m, ⟨o, es, ep, ho, r⟩, _⟩ := id I.loc
 obtain ⟨sl, hL⟩ := u.any ho I.free (by simp)
 exact I.step (g' := s.gens) (d' := s.drawn) (ch := []) (fun _ z => nomatch z) (fun b o _ hb _ e n => u.keep b o e n hb (by simp)) (fun b o _ hb _ e n => u.slot b o e n hb (by simp)) (fun b o _ e n => u.free b o e n (by simp)) (fun b o _ e => u.there b o e (by simp)) u.tups u.frzs u.tbls (fun m' hm => by
  obtain ⟨o', es', ep', ho', r'⟩ := hm
  rw [ho] at ho'; cases ho'
  exact ⟨_, es', ep', hL, r'⟩) hok I.bare
theorem Inv.call {g' : Array GenState} {t' : Nat} {d' : Drawn} {ch : List Addr} (I : Inv X pins σ H s) (u : Un (frs X.stack) ch H H' s.heap h') (hok : HOk X.prog X.w H' h') (hg : AllBare g')
  (hch : ∀ b ∈ ch, (b ∈ X.ex ∨ X.s_0.heap.objs.size ≤ b) ∧ b ≠ X.env.locals ∧ (∀ x c, X.env.cells.lookup x = some c → c ≠ b) ∧ ∀ p ∈ X.pn ++ pins, p.1 ≠ b) :
  Inv X pins σ H' { s with heap := h', gens := g', drawn := d', toks := t' } := by
 obtain ⟨m, ⟨o, es, ep, ho, r⟩, _⟩ := id I.loc
 obtain ⟨sl, hL⟩ := u.any ho I.free fun z => (hch _ z).2.1 rfl
 exact I.step (ch := ch) hch (fun b o hL hb hc e n => u.keep b o e n (fun z => (List.mem_cons.mp (I.stkSub b z)).elim hL hb) hc) (fun b o _ _ hc e n => u.any e n hc) (fun b o hc e n => u.free b o e n hc) (fun b o hc e => u.there b o e hc) u.tups u.frzs u.tbls (fun m' hm => by
  obtain ⟨o', es', ep', ho', r'⟩ := hm
  rw [ho] at ho'; cases ho'
  exact ⟨_, es', ep', hL, r'⟩) hok hg
theorem Inv.turned {t' : Nat} {it : Addr} (I : Inv X pins σ H s) (k : ∀ b o, b ≠ it → s.heap.get? b = some o → h'.get? b = some o) (hn : H it = none) (hL : it ≠ X.env.locals)
  (h1 : it ∈ X.ex ∨ X.s_0.heap.objs.size ≤ it) (h2 : ∀ x c, X.env.cells.lookup x = some c → c ≠ it) (h3 : ∀ p ∈ X.pn ++ pins, p.1 ≠ it) : Inv X pins σ H { s with heap := h', toks := t' } := by
 have nit : ∀ b u, H b = some u → b ≠ it := fun b u e z => by rw [z, hn] at e; cases e
 refine I.step (g' := s.gens) (d' := s.drawn) (ch := [it]) (fun b hb => ?_) (fun b o _ _ hc e _ => k b o (fun z => hc (by simp [z])) e) (fun b o _ _ hc e _ => ⟨o.slots, k b o (fun z => hc (by simp [z])) e⟩) (fun _ _ _ _ n => n)
  (fun b o hc e => ⟨o, k b o (fun z => hc (by simp [z])) e⟩) (fun _ _ e => e) (fun _ _ _ e => e) (fun b ps e => ⟨#[], by rw [e]; simp⟩) (fun m hm => ?_) (fun b u e => ?_) I.bare
 ·have e : b = it := by simpa using hb
  subst e
  exact ⟨h1, hL, h2, h3⟩
 ·obtain ⟨o, es, ep, ho, r⟩ := hm
  exact ⟨o, es, ep, k _ o (Ne.symm hL) ho, r⟩
 ·refine (I.hok b u e).stay (fun c v hc q => k c v ?_ q) (fun _ q => q) fun _ _ q => q
  rcases hc with z | z
  ·rw [z]; exact nit b u e
  ·exact nit c _ z
theorem Inv.tok (I : Inv X pins σ H s) (t : Nat) : Inv X pins σ H { s with toks := t } := I.un (h' := s.heap) (t' := t) Un.refl I.hok
theorem Inv.kept {t' : Nat} (I : Inv X pins σ H s) (k : ∀ b u, s.heap.get? b = some u → h'.get? b = some u) : Inv X pins σ H { s with heap := h', toks := t' } := I.un (Un.kept k) (I.hok.kept k)
theorem Inv.laid {a : Addr} {o : HO} {t' : Nat} (I : Inv X pins σ H s) (k : ∀ b u, s.heap.get? b = some u → h'.get? b = some u) (hp : s.heap.objs.size ≤ a) (new : ObjOk X.prog X.w (upd H a o) h' a o) :
  Inv X pins σ (upd H a o) { s with heap := h', toks := t' } := I.un (Un.laid k hp (I.hok.fresh hp)) (I.hok.laid k hp new)
theorem Inv.write {x e : Addr} {o : HO} {t' : Nat} (I : Inv X pins σ H s) (mu : Mut (H x)) (he : e = x ∨ H e = some (.own x)) (k : ∀ b u, b ≠ e → s.heap.get? b = some u → h'.get? b = some u) (heo : ∃ u, h'.get? e = some u)
  (new : ObjOk X.prog X.w (upd H x o) h' x o) : Inv X pins σ (upd H x o) { s with heap := h', toks := t' } := I.un (Un.write mu he k heo) (I.hok.write mu he k heo new)
theorem Inv.weak {σ' : List (Option V)} (I : Inv X pins σ H s) (hl : σ'.length = σ.length) (w : ∀ (i : Nat) v, σ'[i]? = some (some v) → σ[i]? = some (some v)) : Inv X pins σ' H s :=
 ⟨I.ok, I.os, I.bare, I.base, let ⟨m, hn, hl'⟩ := I.loc; ⟨m, hn, fun i x v e1 e2 e3 => hl' i x v e1 (w i v e2) e3⟩, I.cell, I.free, I.freeC, I.pin, I.hok, hl.trans I.len⟩
theorem Inv.pins_of {pins' : List (Addr × Obj)} (I : Inv X pins σ H s) (h : ∀ p ∈ pins', s.heap.get? p.1 = some p.2 ∧ H p.1 = none ∧ p.1 ≠ X.env.locals ∧ p.1 ∉ X.fs ∧ ∀ v, p.2.data ≠ .cell v) : Inv X pins' σ H s :=
 ⟨I.ok, I.os, I.bare, I.base, I.loc, I.cell, I.free, I.freeC, fun p hp => (List.mem_append.mp hp).elim (fun z => I.pin p (List.mem_append_left _ z)) (h p), I.hok, I.len⟩
theorem nodup_ix {N : List Str} (hN : N.Nodup) {i j : Nat} {x : Str} (a : N[i]? = some x) (b : N[j]? = some x) : i = j := by
 obtain ⟨h1, e1⟩ := List.getElem?_eq_some_iff.mp a
 obtain ⟨h2, e2⟩ := List.getElem?_eq_some_iff.mp b
 exact (List.getElem_inj hN).mp (e1.trans e2.symm)
theorem store_ok2 {M : Model} {A : Around} {E : Value → Shared → Prop} {i : Nat} {x : Str} {v : V} {u : Value} {Q : Unit → Shared → Prop} (I : Inv X pins σ H s) (hN : X.N.Nodup) (hi : X.N[i]? = some x) (hx : Loc X.env.scope x) (r : RelV v u)
  (h : ∀ s', Inv X pins (σ.set i (some v)) H s' → (∃ a, Heap.SameBut a s.heap s'.heap ∧ (a = X.env.locals ∨ X.env.cells.lookup x = some a)) → Q () s') (hf : X.fn x = true ∨ X.env.scope.names.lookup x = some .local := by first | exact .inl rfl | exact .inr rfl | assumption) : wpAny M A (storeName X.env x u) Q E s := by
 obtain ⟨m, hn, hl⟩ := id I.loc
 have hcls : (X.env.scope.kind == .class || (X.env.scope.kind == .module && X.env.locals != X.env.globals)) = false := by rw [I.ok.kind]; rfl
 have hiσ : i < σ.length := by rw [I.len]; exact (List.getElem?_eq_some_iff.mp hi).1
 have cne := I.cne
 have tracked : ∀ {a : Addr} {h' : Heap}, (∃ o, s.heap.get? a = some o ∧ H a = none) → Heap.SameBut a s.heap h' → HOk X.prog X.w H h' := fun {a h'} ha hs b ob e => by
  obtain ⟨_, _, hfree⟩ := ha
  refine (I.hok b ob e).stay (fun c w' hc q => (hs.2 c ?_).trans q) (fun _ q => q) fun _ _ q => q
  rintro rfl
  rcases hc with rfl | hc
  ·rw [hfree] at e; cases e
  ·rw [hfree] at hc; cases hc
 rcases hx with hk | hk
 ·refine wpAny_storeName_local hk hn (fun h' hn' hs => ?_) hcls
  obtain ⟨oL, _, _, hoL, _⟩ := id hn
  refine h _ ⟨I.ok, I.os, I.bare, ⟨fun b o e n hb hx => ?_, fun b o e n hb hx => ?_, I.base.free, fun b o e hx => ?_, I.base.tups, I.base.frzs, I.base.tbls⟩, ⟨_, hn', fun j y v' e1 e2 e3 => ?_⟩, fun y c e => ?_, I.free, I.freeC, fun p hp => ?_, tracked ⟨oL, hoL, I.free⟩ hs, by simpa using I.len⟩ ⟨_, hs, .inl rfl⟩
  ·exact (hs.2 b (Nat.ne_of_lt (Nat.lt_of_lt_of_le (Heap.lt_size e) I.ok.above))).trans (I.base.keep b o e n hb hx)
  ·obtain ⟨sl, e1⟩ := I.base.slot b o e n hb hx
   exact ⟨sl, (hs.2 b (Nat.ne_of_lt (Nat.lt_of_lt_of_le (Heap.lt_size e) I.ok.above))).trans e1⟩
  ·obtain ⟨o', e1⟩ := I.base.there b o e hx
   exact ⟨o', (hs.2 b (Nat.ne_of_lt (Nat.lt_of_lt_of_le (Heap.lt_size e) I.ok.above))).trans e1⟩
  ·by_cases hj : j = i
   ·subst hj
    rw [hi] at e1; cases e1
    rw [List.getElem?_set_self hiσ] at e2
    cases e2
    exact ⟨u, r, .inl ⟨hk, by simp⟩⟩
   ·rw [List.getElem?_set_ne (Ne.symm hj)] at e2
    obtain ⟨u', r', q⟩ := hl j y v' e1 e2 e3
    refine ⟨u', r', ?_⟩
    rcases q with ⟨k, e⟩ | ⟨k, c, e, z⟩
    ·refine .inl ⟨k, ?_⟩
     have : y ≠ x := fun e => hj (nodup_ix hN e1 (e ▸ hi))
     simp [this, e]
    ·exact .inr ⟨k, c, e, z.sameBut hs (cne y c e)⟩
  ·obtain ⟨w', z⟩ := I.cell y c e
   exact ⟨w', z.sameBut hs (cne y c e)⟩
  ·obtain ⟨e, n, ne, nf, d⟩ := I.pin p hp
   exact ⟨(hs.2 p.1 ne).trans e, n, ne, nf, d⟩
 ·have hfn : X.fn x = true := by
   rcases hf with z | z
   ·exact z
   ·rw [z] at hk; cases hk
  obtain ⟨c, hc⟩ := I.ok.has x (.inl hk)
  obtain ⟨w', z⟩ := I.cell x c hc
  refine wpAny_storeName_cell I.ok.kind hk hc z (fun h' hc' hs => ?_)
  obtain ⟨oc, hoc, hocd⟩ := id z
  refine h { s with heap := h' } ⟨I.ok, I.os, I.bare, ⟨fun b o e n hb hx => ?_, fun b o e n hb hx => ?_, I.base.free, fun b o e hx => ?_, I.base.tups, I.base.frzs, I.base.tbls⟩, ⟨m, hn.sameBut hs (Ne.symm (cne x c hc)), fun j y v' e1 e2 e3 => ?_⟩, fun y c' e => ?_, I.free, I.freeC, fun p hp => ?_, tracked ⟨oc, hoc, I.freeC x c hc⟩ hs, by simpa using I.len⟩ ⟨c, hs, .inr hc⟩
  ·exact (hs.2 b (Nat.ne_of_lt (Nat.lt_of_lt_of_le (Heap.lt_size e) (I.ok.cab x c hfn hc)))).trans (I.base.keep b o e n hb hx)
  ·obtain ⟨sl, e1⟩ := I.base.slot b o e n hb hx
   exact ⟨sl, (hs.2 b (Nat.ne_of_lt (Nat.lt_of_lt_of_le (Heap.lt_size e) (I.ok.cab x c hfn hc)))).trans e1⟩
  ·obtain ⟨o', e1⟩ := I.base.there b o e hx
   exact ⟨o', (hs.2 b (Nat.ne_of_lt (Nat.lt_of_lt_of_le (Heap.lt_size e) (I.ok.cab x c hfn hc)))).trans e1⟩
  ·by_cases hj : j = i
   ·subst hj
    rw [hi] at e1; cases e1
    rw [List.getElem?_set_self hiσ] at e2
    cases e2
    exact ⟨u, r, .inr ⟨.inl hk, c, hc, hc'⟩⟩
   ·rw [List.getElem?_set_ne (Ne.symm hj)] at e2
    obtain ⟨u', r', q⟩ := hl j y v' e1 e2 e3
    refine ⟨u', r', ?_⟩
    rcases q with q | ⟨k, c', e, z'⟩
    ·exact .inl q
    ·refine .inr ⟨k, c', e, z'.sameBut hs ?_⟩
     rintro rfl
     exact hj (nodup_ix hN e1 (I.ok.inj _ _ _ e hc ▸ hi))
  ·by_cases hcc : c' = c
   ·subst hcc; exact ⟨_, hc'⟩
   ·obtain ⟨w2, z2⟩ := I.cell y c' e
    exact ⟨w2, z2.sameBut hs hcc⟩
  ·obtain ⟨e, n, ne, nf, d⟩ := I.pin p hp
   refine ⟨(hs.2 p.1 ?_).trans e, n, ne, nf, d⟩
   intro q
   rw [q, hoc] at e
   have q' : oc = p.2 := Option.some.inj e
   exact d w' (by rw [← q']; exact hocd)
theorem store_ok {M : Model} {A : Around} {E : Value → Shared → Prop} {i : Nat} {x : Str} {v : V} {u : Value} {Q : Unit → Shared → Prop} (I : Inv X pins σ H s) (hN : X.N.Nodup) (hi : X.N[i]? = some x) (hx : Loc X.env.scope x) (r : RelV v u)
  (h : ∀ s', Inv X pins (σ.set i (some v)) H s' → Q () s') (hf : X.fn x = true ∨ X.env.scope.names.lookup x = some .local := by first | exact .inl rfl | exact .inr rfl | assumption) : wpAny M A (storeName X.env x u) Q E s :=
 store_ok2 I hN hi hx r (fun s' I' _ => h s' I') hf
theorem Inv.call' {s' : Shared} {ch : List Addr} (I : Inv X pins σ H s) (ho : s'.os = s.os) (u : Un (frs X.stack) ch H H' s.heap s'.heap) (hok : HOk X.prog X.w H' s'.heap) (hg : AllBare s'.gens)
  (hch : ∀ b ∈ ch, (b ∈ X.ex ∨ X.s_0.heap.objs.size ≤ b) ∧ b ≠ X.env.locals ∧ (∀ x c, X.env.cells.lookup x = some c → c ≠ b) ∧ ∀ p ∈ X.pn ++ pins, p.1 ≠ b) : Inv X pins σ H' s' := by
 obtain ⟨h', g', d', t', o'⟩ := s'
 have e : o' = s.os := ho
 subst e
 exact I.call (g' := g') (t' := t') (d' := d') u hok hg hch
end
abbrev XK := Value → Option Addr → Hp → Prop
abbrev St := List (Option V)
abbrev VK := V → Hp → Prop
abbrev TE := St → Hp → VK → Prop
abbrev TT := St → Hp → (Bool → Hp → Prop) → Prop
abbrev TA := St → Hp → (List V → Hp → Prop) → Prop
structure Ends where
 nx : St → Hp → Prop
 rt : VK
 bk : St → Hp → Prop := fun _ _ => False
 ct : St → Hp → Prop := fun _ _ => False
abbrev TS := Ends → St → Hp → Prop
def EP (X : Cx) (pins : List (Addr × Obj)) (σ : St) (Q : VK) (u : Value) (s' : Shared) : Prop := ∃ v H', Inv X pins σ H' s' ∧ RelV v u ∧ Q v H'
def TP (X : Cx) (pins : List (Addr × Obj)) (σ : St) (Q : Bool → Hp → Prop) (b : Bool) (s' : Shared) : Prop := ∃ H', Inv X pins σ H' s' ∧ Q b H'
def AP (X : Cx) (pins : List (Addr × Obj)) (σ : St) (Q : List V → Hp → Prop) (us : List Value) (s' : Shared) : Prop := ∃ vs H', Inv X pins σ H' s' ∧ Vals vs us ∧ Q vs H'
def SP (X : Cx) (pins : List (Addr × Obj)) (D : Ends) (f : Flow) (s' : Shared) : Prop :=
 match f with
 | .next => ∃ σ' H', Inv X pins σ' H' s' ∧ D.nx σ' H'
 | .brk => ∃ σ' H', Inv X pins σ' H' s' ∧ D.bk σ' H'
 | .cont => ∃ σ' H', Inv X pins σ' H' s' ∧ D.ct σ' H'
 | .ret u => ∃ v σ' H', Inv X pins σ' H' s' ∧ RelV v u ∧ D.rt v H'
def PE (X : Cx) (e : Expr) (t : TE) : Prop :=
 ∀ (pins : List (Addr × Obj)) (s : Shared) (σ : St) (H : Hp) (Q : VK), Inv X pins σ H s → t σ H Q → wpAny (model X.prog X.w) X.A (eval e X.env) (EP X pins σ Q) X.xe s
def PT (X : Cx) (e : Expr) (t : TT) : Prop :=
 ∀ (pins : List (Addr × Obj)) (s : Shared) (σ : St) (H : Hp) (Q : Bool → Hp → Prop), Inv X pins σ H s → t σ H Q → wpAny (model X.prog X.w) X.A (isTrue e X.env (eval e X.env)) (TP X pins σ Q) X.xe s
def PW (X : Cx) (e : Expr) (t : TT) : Prop :=
 ∀ (whole : Sem Value) (pins : List (Addr × Obj)) (s : Shared) (σ : St) (H : Hp) (Q : Bool → Hp → Prop), Inv X pins σ H s → t σ H Q → wpAny (model X.prog X.w) X.A (isTrue e X.env whole) (TP X pins σ Q) X.xe s
theorem PW.pt {X : Cx} {e : Expr} {t : TT} (h : PW X e t) : PT X e t := h _
def PA (X : Cx) (es : List Expr) (t : TA) : Prop :=
 ∀ (pos : Pos) (pins : List (Addr × Obj)) (s : Shared) (σ : St) (H : Hp) (Q : List V → Hp → Prop), Inv X pins σ H s → t σ H Q → wpAny (model X.prog X.w) X.A (spliced (backTo pos (starEach es X.env))) (AP X pins σ Q) X.xe s
def PS (X : Cx) (st : Stmt) (t : TS) : Prop :=
 ∀ (pins : List (Addr × Obj)) (s : Shared) (σ : St) (H : Hp) (D : Ends), Inv X pins σ H s → t D σ H → wpAny (model X.prog X.w) X.A (exec st X.env) (SP X pins D) X.xe s
def PSs (X : Cx) (st : List Stmt) (t : TS) : Prop :=
 ∀ (pins : List (Addr × Obj)) (s : Shared) (σ : St) (H : Hp) (D : Ends), Inv X pins σ H s → t D σ H → wpAny (model X.prog X.w) X.A (execs st X.env) (SP X pins D) X.xe s
theorem thn {α : Type} {t : Sem α} {Q Q' : α → Shared → Prop} {M : Model} {A : Around} {E : Value → Shared → Prop} {s : Shared} (h : wpAny M A t Q E s) (hQ : ∀ a s, Q a s → Q' a s) : wpAny M A t Q' E s := wpAny_mono h hQ fun _ _ x => x
end L2
namespace L2
open PySem PySem.Spec PyProof.Rows
section
variable {X : Cx}
theorem bin {a b : Expr} {ta tb : TE} (ha : PE X a ta) (hb : PE X b tb) {pins : List (Addr × Obj)} {s : Shared} {σ : St} {H : Hp} {R : V → V → Hp → Prop} (I : Inv X pins σ H s) (h : ta σ H fun x H1 => tb σ H1 fun y H2 => R x y H2)
  {α : Type} {Q : α → Shared → Prop} {f : Value → Value → Sem α}
  (hf : ∀ v u s2 x y H2, Inv X pins σ H2 s2 → RelV x v → RelV y u → R x y H2 → wpAny (model X.prog X.w) X.A (f v u) Q X.xe s2) :
  wpAny (model X.prog X.w) X.A (eval a X.env) (fun v s₁ => wpAny (model X.prog X.w) X.A (eval b X.env) (fun u s₂ => wpAny (model X.prog X.w) X.A (f v u) Q X.xe s₂) X.xe s₁) X.xe s := by
 refine thn (ha pins s σ H _ I h) fun v s1 ⟨x, H1, I1, r1, q1⟩ => ?_
 refine thn (hb pins s1 σ H1 _ I1 q1) fun u s2 ⟨y, H2, I2, r2, q2⟩ => ?_
 exact hf v u s2 x y H2 I2 r1 r2 q2
def tVar (i : Nat) : TE := fun σ H Q => ∃ v, σ[i]? = some (some v) ∧ Q v H
def tC (v : V) : TE := fun _ H Q => Q v H
theorem pe_var {i : Nat} {x : Str} {pos : Pos} (hN : X.N[i]? = some x) (hv : Vis X.env.scope x) (hd : (x == ("__debug__" : Str)) = false := by decide) (hcd : (x == ("__classdict__" : Str)) = false := by decide) : PE X (.Name x pos) (tVar i) := by
 intro pins s σ H Q I h
 obtain ⟨v, e, h⟩ := h
 obtain ⟨m, hn, hl⟩ := I.loc
 obtain ⟨u, r, l⟩ := hl i x v hN e hv
 have fin : EP X pins σ Q u s := ⟨v, H, I, r, h⟩
 rcases l with ⟨hk, hm⟩ | ⟨hk, c, hc, hcell⟩
 ·exact wpAny_Name (wpAny_loadName_local I.ok.kind hk hn hm fin) hd
 ·rcases hk with hk | hk
  ·exact wpAny_Name (wpAny_loadName_cell I.ok.kind hk hc hcell fin) hd
  ·exact wpAny_Name (wpAny_loadName_free I.ok.kind hk hc hcell fin hcd) hd
theorem pe_int {i j pos} : PE X (.Constant (.int i) j pos) (tC (.int i)) := fun _ _ _ H _ I h => wpAny_Constant_int ⟨.int i, H, I.tok _, ⟨_, rfl⟩, h⟩
theorem pe_bl {b j pos} : PE X (.Constant (.bool b) j pos) (tC (.bl b)) := fun _ _ _ H _ I h => Constant_bool ⟨.bl b, H, I, rfl, h⟩
theorem pe_non {j pos} : PE X (.Constant .none j pos) (tC .non) := fun _ _ _ H _ I h => Constant_none ⟨.non, H, I, rfl, h⟩
def Gl (X : Cx) (x : Str) : Prop := X.env.kindOf x = some .globalImplicit
theorem ld_glob {E : Value → Shared → Prop} {pins : List (Addr × Obj)} {s : Shared} {σ : St} {H : Hp} {x : Str} {u : Value} {pos : Pos} {Q : Value → Shared → Prop} (I : Inv X pins σ H s) (hg : Gl X x) (hm : X.mg x = some u) (h : Q u s)
  (hd : (x == ("__debug__" : Str)) = false := by decide) : wpAny (model X.prog X.w) X.A (eval (.Name x pos) X.env) Q E s :=
 Calls.Name_function_global I.ok.kind hg (Calls.loadGlobal_global (by rw [I.ok.glob]; exact I.mod.glob.keeps I.bk) hm h) hd
theorem ld_blt {E : Value → Shared → Prop} {pins : List (Addr × Obj)} {s : Shared} {σ : St} {H : Hp} {x : Str} {u : Value} {pos : Pos} {Q : Value → Shared → Prop} (I : Inv X pins σ H s) (hg : Gl X x) (hm : X.mg x = none) (hv : bootBuiltins x = some u) (h : Q u s)
  (hn : x ≠ "__name__" := by decide) (hd : (x == ("__debug__" : Str)) = false := by decide) : wpAny (model X.prog X.w) X.A (eval (.Name x pos) X.env) Q E s := by
 obtain ⟨mb, h1, h2⟩ := I.mod.blt
 exact Calls.Name_function_global I.ok.kind hg (Calls.loadGlobal_builtin (by rw [I.ok.glob]; exact I.mod.glob.keeps I.bk) hm (by rw [I.ok.blt]; exact h1.keeps I.bk) ((h2 x hn).trans hv) h) hd
theorem pe_glob {x : Str} {v : V} {u : Value} {pos : Pos} (hg : Gl X x) (hm : X.mg x = some u) (r : RelV v u) (hd : (x == ("__debug__" : Str)) = false := by decide) : PE X (.Name x pos) (tC v) :=
 fun _ _ _ H _ I h => ld_glob I hg hm ⟨v, H, I, r, h⟩ hd
variable {a b : Expr} {ta tb : TE} {pos : Pos}
variable {tA tB' : TT} {rest : List Expr}
def tAnd (t u : TT) : TT := fun σ H Q => t σ H fun c H1 => if c = true then u σ H1 Q else Q false H1
def tOr (t u : TT) : TT := fun σ H Q => t σ H fun c H1 => if c = true then Q true H1 else u σ H1 Q
def tNot (t : TT) : TT := fun σ H Q => t σ H fun c H1 => Q (!c) H1
theorem pw_and1 (ha : PT X a tA) : PW X (.BoolOp .And [a] pos) tA := by
 intro wh pins s σ H Q I h
 refine isTrue_and (thn (ha pins s σ H Q I h) fun c s1 e => ?_)
 cases c with
 | true => exact isTrue_and_nil e
 | false => exact e
theorem pw_or1 (ha : PT X a tA) : PW X (.BoolOp .Or [a] pos) tA := by
 intro wh pins s σ H Q I h
 refine isTrue_or (thn (ha pins s σ H Q I h) fun c s1 e => ?_)
 cases c with
 | false => exact isTrue_or_nil e
 | true => exact e
theorem pw_and (ha : PT X a tA) (hb : PW X (.BoolOp .And (b :: rest) pos) tB') : PW X (.BoolOp .And (a :: b :: rest) pos) (tAnd tA tB') := by
 intro wh pins s σ H Q I h
 refine isTrue_and (thn (ha pins s σ H _ I h) fun c s1 ⟨H1, I1, q1⟩ => ?_)
 cases c with
 | true => exact hb wh pins s1 σ H1 Q I1 q1
 | false => exact ⟨H1, I1, q1⟩
theorem pw_or (ha : PT X a tA) (hb : PW X (.BoolOp .Or (b :: rest) pos) tB') : PW X (.BoolOp .Or (a :: b :: rest) pos) (tOr tA tB') := by
 intro wh pins s σ H Q I h
 refine isTrue_or (thn (ha pins s σ H _ I h) fun c s1 ⟨H1, I1, q1⟩ => ?_)
 cases c with
 | true => exact ⟨H1, I1, q1⟩
 | false => exact hb wh pins s1 σ H1 Q I1 q1
theorem pt_not (ha : PT X a tA) : PT X (.UnaryOp .Not a pos) (tNot tA) := by
 intro pins s σ H Q I h
 exact isTrue_not (ha pins s σ H (fun c H1 => Q (!c) H1) I h)
def tAndV (ta tb : TE) : TE := fun σ H Q => ta σ H fun x H1 => ∃ c, x = .bl c ∧ if c = true then tb σ H1 Q else Q (.bl false) H1
def tOrV (ta tb : TE) : TE := fun σ H Q => ta σ H fun x H1 => ∃ c, x = .bl c ∧ if c = true then Q (.bl true) H1 else tb σ H1 Q
def tNotV (ta : TE) : TE := fun σ H Q => ta σ H fun x H1 => ∃ c, x = .bl c ∧ Q (.bl (!c)) H1
theorem pe_one {op} {t : TE} (h : PE X a t) : PE X (.BoolOp op [a] pos) t := fun pins s σ H Q I hw => BoolOp_one (h pins s σ H Q I hw)
theorem pe_and (ha : PE X a ta) (hb : PE X (.BoolOp .And (b :: rest) pos) tb) : PE X (.BoolOp .And (a :: b :: rest) pos) (tAndV ta tb) := by
 intro pins s σ H Q I h
 refine BoolOp_and (thn (ha pins s σ H _ I h) fun v s1 ⟨x, H1, I1, r1, q1⟩ => ?_)
 obtain ⟨c, rfl, q1⟩ := q1
 cases r1
 refine wpAny_truthy_bool ?_
 cases c with
 | true => exact hb pins s1 σ H1 Q I1 q1
 | false => exact ⟨.bl false, H1, I1, rfl, q1⟩
theorem pe_or (ha : PE X a ta) (hb : PE X (.BoolOp .Or (b :: rest) pos) tb) : PE X (.BoolOp .Or (a :: b :: rest) pos) (tOrV ta tb) := by
 intro pins s σ H Q I h
 refine BoolOp_or (thn (ha pins s σ H _ I h) fun v s1 ⟨x, H1, I1, r1, q1⟩ => ?_)
 obtain ⟨c, rfl, q1⟩ := q1
 cases r1
 refine wpAny_truthy_bool ?_
 cases c with
 | false => exact hb pins s1 σ H1 Q I1 q1
 | true => exact ⟨.bl true, H1, I1, rfl, q1⟩
theorem pe_not (ha : PE X a ta) : PE X (.UnaryOp .Not a pos) (tNotV ta) := by
 intro pins s σ H Q I h
 refine UnaryOp_ (thn (ha pins s σ H _ I h) fun v s1 ⟨x, H1, I1, r1, q1⟩ => ?_)
 obtain ⟨c, rfl, q1⟩ := q1
 cases r1
 exact not_of (wpAny_truthy_bool ⟨.bl (!c), H1, I1, rfl, q1⟩)
def tIf (t : TT) (ta tb : TE) : TE := fun σ H Q => t σ H fun c H1 => if c = true then ta σ H1 Q else tb σ H1 Q
theorem pe_ifExp {c : Expr} (hc : PT X c tA) (ha : PE X a ta) (hb : PE X b tb) : PE X (.IfExp c a b pos) (tIf tA ta tb) := by
 intro pins s σ H Q I h
 refine wpAny_IfExp (thn (hc pins s σ H _ I h) fun d s1 ⟨H1, I1, q1⟩ => ?_)
 cases d with
 | true => exact ha pins s1 σ H1 Q I1 q1
 | false => exact hb pins s1 σ H1 Q I1 q1
end
end L2
namespace L2
open PySem PySem.Spec PyProof.Rows
def SqL (K : PySem.W.Frag) (H : Hp) (a : Addr) (xs : List V) : Prop :=
 Rd H a (.lst xs) ∨
  ∃ (o : Obj) (its : Array Value) (n : Nat), K.lookup a = some o ∧ o.cls = .type "list" ∧ o.dict = none ∧ o.data = .seq its n ∧ its.size ≤ sizeLine ∧ Vals xs its.toList
def SqT (K : PySem.W.Frag) (H : Hp) (a : Addr) (xs : List V) : Prop :=
 Rd H a (.tup xs) ∨
  ∃ (o : Obj) (its : Array Value) (n : Nat), K.lookup a = some o ∧ o.cls = .type "tuple" ∧ o.data = .seq its n ∧ its.size ≤ sizeLine ∧ Vals xs its.toList
def absV : Value → Option V
 | .none => some .non
 | .bool b => some (.bl b)
 | .int i _ => some (.int i)
 | .str x _ => some (.str x)
 | .bytes b _ => some (.byt b)
 | .float b _ => some (.flt b)
 | .ref a => some (.ref a)
 | .type n => some (.ty n)
 | _ => none
theorem RelV.abs {x : V} {u : Value} (r : RelV x u) : absV u = some x := by
 cases x with
 | non => cases r; rfl
 | bl _ => cases r; rfl
 | int _ => obtain ⟨t, rfl⟩ := r; rfl
 | str _ => obtain ⟨t, rfl⟩ := r; rfl
 | byt _ => obtain ⟨t, rfl⟩ := r; rfl
 | flt _ => obtain ⟨t, rfl⟩ := r; rfl
 | ref _ => cases r; rfl
 | ty _ => cases r; rfl
theorem RelV.inj {x y : V} {u : Value} (r : RelV x u) (q : RelV y u) : x = y := Option.some.inj (r.abs.symm.trans q.abs)
theorem Vals.inj : ∀ {xs ys : List V} {us : List Value}, Vals xs us → Vals ys us → xs = ys
 | _, _, _, .nil, .nil => rfl
 | _, _, _, .cons r t, .cons r' t' => by rw [r.inj r', Vals.inj t t']
section
variable {X : Cx} {pins : List (Addr × Obj)} {σ : St} {H : Hp} {s : Shared} {a : Addr} {xs ys : List V}
theorem SqL.of {K : PySem.W.Frag} (h : H a = some (.lst xs)) : SqL K H a xs := .inl (.inl h)
theorem SqT.of {K : PySem.W.Frag} (h : H a = some (.tup xs)) : SqT K H a xs := .inl (.inl h)
theorem Inv.list (I : Inv X pins σ H s) (h : SqL X.K H a xs) : ∃ its : List Value, Vals xs its ∧ PlainL s.heap a its.toArray ∧ xs.length ≤ sizeLine := by
 rcases h with h | ⟨o, its, n, hk, hc, hd, hs, hz, r⟩
 ·obtain ⟨z, its, n, r, e⟩ := h.ok I.hok
  exact ⟨its, r, ⟨_, n, e, rfl, rfl, rfl⟩, z⟩
 ·refine ⟨its.toList, r, ⟨o, n, I.kIn a o hk, hc, hd, by simpa using hs⟩, ?_⟩
  have e := r.length
  simp only [Array.length_toList] at e
  omega
theorem Inv.tuple (I : Inv X pins σ H s) (h : SqT X.K H a xs) : ∃ its : List Value, Vals xs its ∧ IsTup s.heap a its.toArray ∧ xs.length ≤ sizeLine := by
 rcases h with h | ⟨o, its, n, hk, hc, hs, hz, r⟩
 ·obtain ⟨z, its, r, p⟩ := h.ok I.hok
  exact ⟨its, r, p, z⟩
 ·refine ⟨its.toList, r, ⟨o, I.kIn a o hk, hc, n, by simpa using hs⟩, ?_⟩
  have e := r.length
  simp only [Array.length_toList] at e
  omega
theorem Inv.list_inj (I : Inv X pins σ H s) (h : SqL X.K H a xs) (h' : SqL X.K H a ys) : xs = ys := by
 obtain ⟨its, r, ⟨o, n, e, _, _, d⟩, _⟩ := I.list h
 obtain ⟨its', r', ⟨o', n', e', _, _, d'⟩, _⟩ := I.list h'
 rw [e] at e'; cases e'
 rw [d] at d'
 injection d' with d1 _
 have : its = its' := by simpa using congrArg Array.toList d1
 subst this
 exact r.inj r'
end
abbrev Cx.wish (X : Cx) (E : Value → Shared → Prop) : Cx := { X with xe := E }
abbrev Cx.nox (X : Cx) : Cx := X.wish fun _ _ => False
theorem Cx.Ok.wish {X : Cx} (ok : X.Ok) (E : Value → Shared → Prop) : (X.wish E).Ok :=
 ⟨ok.mod, ok.kind, ok.glob, ok.blt, ok.above, ok.inj, ok.has, ok.cab, ok.hd, ok.frames, ok.stk, ok.exf, ok.bs, ok.bsz, ok.noex, ok.exfs, ok.funs, ok.frf⟩
theorem Cx.Ok.unwish {X : Cx} {E : Value → Shared → Prop} (ok : (X.wish E).Ok) : X.Ok :=
 ⟨ok.mod, ok.kind, ok.glob, ok.blt, ok.above, ok.inj, ok.has, ok.cab, ok.hd, ok.frames, ok.stk, ok.exf, ok.bs, ok.bsz, ok.noex, ok.exfs, ok.funs, ok.frf⟩
section
variable {X : Cx} {pins : List (Addr × Obj)} {σ : St} {H : Hp} {s : Shared} {E : Value → Shared → Prop}
theorem Inv.wish (I : Inv X pins σ H s) (E : Value → Shared → Prop) : Inv (X.wish E) pins σ H s := ⟨I.ok.wish E, I.os, I.bare, I.base, I.loc, I.cell, I.free, I.freeC, I.pin, I.hok, I.len⟩
theorem Inv.unwish (I : Inv (X.wish E) pins σ H s) : Inv X pins σ H s := ⟨I.ok.unwish, I.os, I.bare, I.base, I.loc, I.cell, I.free, I.freeC, I.pin, I.hok, I.len⟩
theorem SP.unwish {D : Ends} {f : Flow} {s' : Shared} (h : SP (X.wish E) pins D f s') : SP X pins D f s' := by
 cases f with
 | next => obtain ⟨σ', H', I, q⟩ := h; exact ⟨σ', H', I.unwish, q⟩
 | brk => obtain ⟨σ', H', I, q⟩ := h; exact ⟨σ', H', I.unwish, q⟩
 | cont => obtain ⟨σ', H', I, q⟩ := h; exact ⟨σ', H', I.unwish, q⟩
 | ret u => obtain ⟨v, σ', H', I, r, q⟩ := h; exact ⟨v, σ', H', I.unwish, r, q⟩
theorem PSs.nox {st : List Stmt} {t : TS} (h : PSs X.nox st t) : PSs X st t := fun pins s σ H D I hw =>
 wpAny_mono (h pins s σ H D (I.wish _) hw) (fun _ _ q => q.unwish) fun _ _ z => False.elim z
end
section
variable {X : Cx} {st : Stmt} {rest : List Stmt} {t u : TS} {e : Expr} {te : TE} {pos : Pos}
def tNext : TS := fun D σ H => D.nx σ H
def tSeq (t u : TS) : TS := fun D σ H => t { D with nx := u D } σ H
theorem pss_nil : PSs X [] tNext := fun _ _ σ H _ I h => wpAny_execs_nil ⟨σ, H, I, h⟩
theorem pss_cons (h1 : PS X st t) (h2 : PSs X rest u) : PSs X (st :: rest) (tSeq t u) := by
 intro pins s σ H D I h
 refine wpAny_execs_cons (thn (h1 pins s σ H { D with nx := u D } I h) fun f s1 q => ?_)
 cases f with
 | next =>
  obtain ⟨σ', H', I', q⟩ := q
  exact h2 pins s1 σ' H' D I' q
 | ret v => exact q
 | brk => exact q
 | cont => exact q
theorem pss_one (h1 : PS X st t) : PSs X [st] t := by
 intro pins s σ H D I h
 refine wpAny_execs_cons (thn (h1 pins s σ H D I h) fun f s1 q => ?_)
 cases f with
 | next => exact wpAny_execs_nil q
 | ret v => exact q
 | brk => exact q
 | cont => exact q
def tBreak : TS := fun D σ H => D.bk σ H
def tCont : TS := fun D σ H => D.ct σ H
theorem ps_break : PS X (.Break pos) tBreak := fun _ _ σ H _ I h => wpAny_Break ⟨σ, H, I, h⟩
theorem ps_continue : PS X (.Continue pos) tCont := fun _ _ σ H _ I h => wpAny_Continue ⟨σ, H, I, h⟩
theorem Inv.quiet {pins : List (Addr × Obj)} {σ : St} {H : Hp} {s : Shared} (I : Inv X pins σ H s) : interactive X.env = false := by simp [interactive, I.ok.kind]
def tDrop (te : TE) : TS := fun D σ H => te σ H fun _ H1 => D.nx σ H1
theorem ps_expr (he : PE X e te) (hs : swapsWith e none pos.line X.env = pure false := by rfl) : PS X (.Expr e pos) (tDrop te) := by
 intro pins s σ H D I h
 exact wpAny_Expr_any (thn (he pins s σ H _ I h) fun v s1 ⟨x, H1, I1, r1, q1⟩ => ⟨σ, H1, I1, q1⟩) I.quiet hs
def tRet (te : TE) : TS := fun D σ H => te σ H D.rt
theorem ps_ret (he : PE X e te) : PS X (.Return (some e) pos) (tRet te) := by
 intro pins s σ H D I h
 exact wpAny_Return_some (thn (he pins s σ H _ I h) fun v s1 ⟨x, H1, I1, r1, q1⟩ => ⟨x, σ, H1, I1, r1, q1⟩)
def tRetN : TS := fun D _ H => D.rt .non H
theorem ps_retN : PS X (.Return none pos) tRetN := fun _ _ σ H _ I h => wpAny_Return_none ⟨.non, σ, H, I, rfl, h⟩
def tIfS (c : TT) (t u : TS) : TS := fun D σ H => c σ H fun b H1 => if b = true then t D σ H1 else u D σ H1
theorem ps_if {c : Expr} {a b : List Stmt} {tc : TT} (hc : PT X c tc) (ha : PSs X a t) (hb : PSs X b u) : PS X (.If c a b pos) (tIfS tc t u) := by
 intro pins s σ H D I h
 refine wpAny_If (thn (hc pins s σ H _ I h) fun d s1 ⟨H1, I1, q1⟩ => ?_)
 cases d with
 | true => exact ha pins s1 σ H1 D I1 q1
 | false => exact hb pins s1 σ H1 D I1 q1
end
abbrev TG := V → St → Hp → (St → Hp → Prop) → Prop
def PG (X : Cx) (target : Expr) (t : TG) : Prop :=
 ∀ (pins : List (Addr × Obj)) (s : Shared) (σ : St) (H : Hp) (v : V) (u : Value) (Q : St → Hp → Prop), Inv X pins σ H s → RelV v u → t v σ H Q →
  wpAny (model X.prog X.w) X.A (assign target X.env u) (fun _ s' => ∃ σ' H', Inv X pins σ' H' s' ∧ Q σ' H') X.xe s
abbrev TSet := V → V → V → Hp → (Hp → Prop) → Prop
def PSet (X : Cx) (t : TSet) : Prop :=
 ∀ (pins : List (Addr × Obj)) (s : Shared) (σ : St) (H : Hp) (o i v : V) (ov iv u : Value) (Q : Hp → Prop), Inv X pins σ H s → RelV o ov → RelV i iv → RelV v u → t o i v H Q →
  wpAny (model X.prog X.w) X.A (setItem ov iv u) (fun _ s' => ∃ H', Inv X pins σ H' s' ∧ Q H') X.xe s
abbrev TIp := V → V → Hp → VK → Prop
def PIp (X : Cx) (op : Operator) (t : TIp) : Prop :=
 ∀ (pins : List (Addr × Obj)) (s : Shared) (σ : St) (H : Hp) (x y : V) (v u : Value) (Q : VK), Inv X pins σ H s → RelV x v → RelV y u → t x y H Q →
  wpAny (model X.prog X.w) X.A (inplaceOp op v u) (EP X pins σ Q) X.xe s
section
variable {X : Cx} {pos : Pos}
def gName (i : Nat) : TG := fun v σ H Q => Q (σ.set i (some v)) H
theorem pg_name {i : Nat} {x : Str} (hN : X.N.Nodup) (hi : X.N[i]? = some x) (hx : Loc X.env.scope x) (hf : X.fn x = true ∨ X.env.scope.names.lookup x = some .local := by first | exact .inl rfl | exact .inr rfl | assumption) : PG X (.Name x pos) (gName i) := by
 intro pins s σ H v u Q I r h
 exact wpAny_assign_Name (store_ok I hN hi hx r (fun s' I' => ⟨_, H, I', h⟩) hf)
def gSub (to ti : TE) (t : TSet) : TG := fun v σ H Q => to σ H fun o H1 => ti σ H1 fun i H2 => t o i v H2 fun H3 => Q σ H3
theorem pg_sub {o i : Expr} {to ti : TE} {t : TSet} (ho : PE X o to) (hi : PE X i ti) (hs : PSet X t)
  (ha : ∀ v, assign (.Subscript o i pos) X.env v = (do
   let ov ← holding [v] (eval o X.env)
   let iv ← holding [v, ov] (eval i X.env)
   standAt pos
   holding [v, ov, iv] (setItem ov iv v)
   release [v, ov, iv] []) := by intro _; rfl) : PG X (.Subscript o i pos) (gSub to ti t) := by
 intro pins s σ H v u Q I r h
 rw [ha]
 refine wpAny_bind (wpAny_holding (thn (ho pins s σ H _ I h) fun ov s1 ⟨x, H1, I1, r1, q1⟩ => ?_))
 refine wpAny_bind (wpAny_holding (thn (hi pins s1 σ H1 _ I1 q1) fun iv s2 ⟨y, H2, I2, r2, q2⟩ => ?_))
 refine wpAny_bind (wpAny_standAt (wpAny_bind (wpAny_holding (thn (hs pins s2 σ H2 x y v ov iv u _ I2 r1 r2 r q2) fun _ s3 ⟨H3, I3, q3⟩ => ?_))))
 exact wpAny_release ⟨σ, H3, I3, q3⟩
def tAsg (te : TE) (g : TG) : TS := fun D σ H => te σ H fun x H1 => g x σ H1 D.nx
theorem ps_asg {tg e : Expr} {te : TE} {g : TG} (he : PE X e te) (hg : PG X tg g) (hs : swapsWithSole [tg] e pos.line X.env = pure false := by rfl) (hw : swappedStores [tg] e X.env = pure none := by rfl)
  (h1 : (assignEach [tg] X.env).map (·.2) = [assign tg X.env] := by rfl) : PS X (.Assign [tg] e pos) (tAsg te g) := by
 intro pins s σ H D I h
 refine wpAny_Assign_stores (thn (he pins s σ H _ I h) fun v s1 ⟨x, H1, I1, r1, q1⟩ => ?_) hs hw
 rw [h1]
 exact thn (hg pins s1 σ H1 x v _ I1 r1 q1) fun _ s2 q => q
theorem ps_set {i : Nat} {x : Str} {e : Expr} {te : TE} {pos' : Pos} (hN : X.N.Nodup) (hi : X.N[i]? = some x) (hx : Loc X.env.scope x) (he : PE X e te) (hs : swapsWith e (some (.Name x pos')) pos.line X.env = pure false := by rfl) (hf : X.fn x = true ∨ X.env.scope.names.lookup x = some .local := by first | exact .inl rfl | exact .inr rfl | assumption) :
  PS X (.Assign [.Name x pos'] e pos) (tAsg te (gName i)) := by
 intro pins s σ H D I h
 refine wpAny_Assign_Name (thn (he pins s σ H _ I h) fun v s1 ⟨y, H1, I1, r1, q1⟩ => ?_) hs
 exact store_ok I1 hN hi hx r1 (fun s2 I2 => ⟨_, H1, I2, q1⟩) hf
def tAug (i : Nat) (te : TE) (ti : TIp) : TS := fun D σ H => ∃ x, σ[i]? = some (some x) ∧ te σ H fun y H1 => ti x y H1 fun z H2 => D.nx (σ.set i (some z)) H2
theorem ps_aug {i : Nat} {x : Str} {e : Expr} {te : TE} {op : Operator} {ti : TIp} {pos' : Pos} (hN : X.N.Nodup) (hi : X.N[i]? = some x) (hx : Loc X.env.scope x) (he : PE X e te) (ho : PIp X op ti) (hf : X.fn x = true ∨ X.env.scope.names.lookup x = some .local := by first | exact .inl rfl | exact .inr rfl | assumption) :
  PS X (.AugAssign (.Name x pos') op e pos) (tAug i te ti) := by
 intro pins s σ H D I h
 obtain ⟨v, e1, h⟩ := h
 obtain ⟨m, hn, hl⟩ := I.loc
 have vis : Vis X.env.scope x := by rcases hx with k | k; exact .inl k; exact .inr (.inl k)
 obtain ⟨u, r, l⟩ := hl i x v hi e1 vis
 refine wpAny_AugAssign_Name ?_
 have go : wpAny (model X.prog X.w) X.A (eval e X.env) (fun w s₂ => wpAny (model X.prog X.w) X.A (inplaceOp op u w) (fun r s₃ => wpAny (model X.prog X.w) X.A (storeName X.env x r) (fun _ => SP X pins D .next) X.xe s₃) X.xe s₂) X.xe s := by
  refine thn (he pins s σ H _ I h) fun w s1 ⟨y, H1, I1, r1, q1⟩ => ?_
  refine thn (ho pins s1 σ H1 v y u w _ I1 r r1 q1) fun z s2 ⟨zv, H2, I2, r2, q2⟩ => ?_
  exact store_ok I2 hN hi hx r2 (fun s3 I3 => ⟨_, H2, I3, q2⟩) hf
 rcases l with ⟨hk, hm⟩ | ⟨hk, c, hc, hcell⟩
 ·exact wpAny_loadName_local I.ok.kind hk hn hm go
 ·rcases hk with hk | hk
  ·exact wpAny_loadName_cell I.ok.kind hk hc hcell go
  ·rcases hx with k | k
   ·have : X.env.scope.names.lookup x = some .free := hk
    rw [k] at this; cases this
   ·have : X.env.scope.names.lookup x = some .free := hk
    rw [k] at this; cases this
def tAugS (to ti te : TE) (tget : V → V → Hp → VK → Prop) (tip : TIp) (tset : TSet) : TS := fun D σ H => to σ H fun o H1 => ti σ H1 fun i H2 => tget o i H2 fun x H3 => te σ H3 fun y H4 => tip x y H4 fun z H5 => tset o i z H5 fun H6 => D.nx σ H6
def PGet (X : Cx) (t : V → V → Hp → VK → Prop) : Prop :=
 ∀ (pins : List (Addr × Obj)) (s : Shared) (σ : St) (H : Hp) (o i : V) (ov iv : Value) (Q : VK), Inv X pins σ H s → RelV o ov → RelV i iv → t o i H Q →
  wpAny (model X.prog X.w) X.A (getItem ov iv) (EP X pins σ Q) X.xe s
theorem ps_augS {o i e : Expr} {to ti te : TE} {tget : V → V → Hp → VK → Prop} {tip : TIp} {tset : TSet} {op : Operator} {tpos : Pos} (ho : PE X o to) (hi : PE X i ti) (hg : PGet X tget) (he : PE X e te) (hp : PIp X op tip) (hs : PSet X tset)
  (ha : ∀ ov iv new, augStore i ov iv new = (do holding [new, ov, iv] (setItem ov iv new); release [new, ov, iv] []; pure .next) := by intros; rfl) : PS X (.AugAssign (.Subscript o i tpos) op e pos) (tAugS to ti te tget tip tset) := by
 intro pins s σ H D I h
 refine wpAny_AugAssign_SubscriptAny (thn (ho pins s σ H _ I h) fun ov s1 ⟨x1, H1, I1, r1, q1⟩ => ?_) ha
 refine thn (hi pins s1 σ H1 _ I1 q1) fun iv s2 ⟨x2, H2, I2, r2, q2⟩ => ?_
 refine thn (hg pins s2 σ H2 x1 x2 ov iv _ I2 r1 r2 q2) fun old s3 ⟨x3, H3, I3, r3, q3⟩ => ?_
 refine thn (he pins s3 σ H3 _ I3 q3) fun v s4 ⟨x4, H4, I4, r4, q4⟩ => ?_
 refine thn (hp pins s4 σ H4 x3 x4 old v _ I4 r3 r4 q4) fun new s5 ⟨x5, H5, I5, r5, q5⟩ => ?_
 exact thn (hs pins s5 σ H5 x1 x2 x5 ov iv new _ I5 r1 r2 r5 q5) fun _ s6 ⟨H6, I6, q6⟩ => ⟨σ, H6, I6, q6⟩
def ipI (f : Int → Int → Int) : TIp := fun x y H Q => ∃ i j, x = .int i ∧ y = .int j ∧ Q (.int (f i j)) H
theorem ip_add : PIp X .Add (ipI fun i j => i + j) := by
 intro pins s σ H x y v u Q I r1 r2 h
 obtain ⟨i, j, e1, e2, q⟩ := h
 subst e1; subst e2
 obtain ⟨t, rfl⟩ := r1
 obtain ⟨t', rfl⟩ := r2
 exact iadd_int ⟨.int _, H, I.tok _, ⟨_, rfl⟩, q⟩
theorem ip_sub : PIp X .Sub (ipI fun i j => i - j) := by
 intro pins s σ H x y v u Q I r1 r2 h
 obtain ⟨i, j, e1, e2, q⟩ := h
 subst e1; subst e2
 obtain ⟨t, rfl⟩ := r1
 obtain ⟨t', rfl⟩ := r2
 exact isub_int ⟨.int _, H, I.tok _, ⟨_, rfl⟩, q⟩
end
section
variable {X : Cx} {pos : Pos}
def tWhile (c : TT) (tb : TS) : TS := fun D σ H => ∃ W : Nat → St → Hp → Prop, (∃ m, W m σ H) ∧ ∀ m σ H, W m σ H →
 c σ H fun b H1 => if b = true then ∃ N : St → Hp → Prop, (∀ σ' H', N σ' H' → ∃ m', m' < m ∧ W m' σ' H') ∧ tb { D with nx := N, ct := N, bk := D.nx } σ H1 else D.nx σ H1
theorem ps_while {c : Expr} {body : List Stmt} {tc : TT} {tb : TS} (hp : PassesOwn (model X.prog X.w) X.A X.env X.xe) (hc : PT X c tc) (hb : PSs X body tb) : PS X (.While c body [] pos) (tWhile tc tb) := by
 intro pins s σ H D I h
 obtain ⟨W, ⟨m0, w0⟩, turn⟩ := h
 refine wpAny_While (codeAny_whileLoop (fun n s' => ∃ σ' H', Inv X pins σ' H' s' ∧ W n σ' H') ?_ m0 ⟨σ, H, I, w0⟩)
 rintro n s1 ⟨σ1, H1, I1, w1⟩
 refine wpAny_passesOwn hp (thn (hc pins s1 σ1 H1 _ I1 (turn n σ1 H1 w1)) fun b s2 ⟨H2, I2, q2⟩ => ?_)
 cases b with
 | true =>
  obtain ⟨N, hN, q2⟩ := q2
  rw [if_pos rfl]
  refine wpAny_passesOwn hp (thn (hb pins s2 σ1 H2 _ I2 q2) fun f s3 q3 => ?_)
  cases f with
  | next =>
   obtain ⟨σ3, H3, I3, n3⟩ := q3
   obtain ⟨m', hm, w3⟩ := hN σ3 H3 n3
   exact ⟨m', hm, σ3, H3, I3, w3⟩
  | cont =>
   obtain ⟨σ3, H3, I3, n3⟩ := q3
   obtain ⟨m', hm, w3⟩ := hN σ3 H3 n3
   exact ⟨m', hm, σ3, H3, I3, w3⟩
  | brk => exact q3
  | ret v => exact q3
 | false =>
  rw [if_neg Bool.false_ne_true]
  exact wpAny_execs_nil ⟨σ1, H2, I2, q2⟩
end
structure It where
 go : Nat → Hp → Prop
 yld : Nat → Hp → V → Hp → Prop
 stop : Nat → Hp → Prop
def FpOk (X : Cx) (pins : List (Addr × Obj)) (H : Hp) (b : Addr) : Prop :=
 H b = none ∧ b ≠ X.env.locals ∧ b ∉ X.fs ∧ (b ∈ X.ex ∨ X.s_0.heap.objs.size ≤ b) ∧ (∀ x c, X.env.cells.lookup x = some c → c ≠ b) ∧ ∀ p ∈ X.pn ++ pins, p.1 ≠ b
theorem Inv.fpOk {X : Cx} {pins : List (Addr × Obj)} {σ : St} {H H' : Hp} {s : Shared} {b : Addr} (I : Inv X pins σ H s) (hb : s.heap.objs.size ≤ b) (hn : H' b = none) : FpOk X pins H' b := by
 refine ⟨hn, Nat.ne_of_gt (Nat.lt_of_lt_of_le I.lt hb), I.nofs hb, .inr (Nat.le_trans I.sz hb), fun x c e z => ?_, fun p hp z => ?_⟩
 ·obtain ⟨v, q⟩ := I.cell x c e
  exact absurd (Nat.lt_of_lt_of_le q.lt (by rw [z]; exact hb)) (Nat.lt_irrefl _)
 ·exact absurd (Nat.lt_of_lt_of_le (Heap.lt_size (I.pin p hp).1) (by rw [z]; exact hb)) (Nat.lt_irrefl _)
structure Turn (P : Program) (w : World) (K : PySem.W.Frag) (tg : Expr) (J : It) (fp : List Addr) (it : Addr) (tn : Nat → Heap → Prop) : Prop where
 mem : it ∈ fp
 obj : ∀ i h, tn i h → ∀ b ∈ fp, ∃ o, h.get? b = some o ∧ ∀ v, o.data ≠ .cell v
 keep : ∀ i h h', tn i h → (∀ b ∈ fp, ∀ o, h.get? b = some o → h'.get? b = some o) → tn i h'
 item : ∀ (X : Cx), X.prog = P → X.w = w → X.K = K → X.calm = true → ∀ (i : Nat) (pins : List (Addr × Obj)) (s : Shared) (σ : St) (H : Hp) (E : Value → Shared → Prop), Inv X pins σ H s → (∀ b ∈ fp, FpOk X pins H b) → tn i s.heap → J.go i H →
  wpAny (model P w) X.A (pyNext (.ref it)) (fun r s1 => ∃ u, r = some u ∧
   wpAny (model P w) X.A (letOwnedTupleGo tg (.ref it) u) (fun _ s2 => ∃ x H', Inv X pins σ H' s2 ∧ RelV x u ∧ J.yld i H x H' ∧ tn (i + 1) s2.heap ∧ ∀ b ∈ fp, H' b = none) E s1) E s
 done : ∀ (X : Cx), X.prog = P → X.w = w → X.K = K → X.calm = true → ∀ (i : Nat) (pins : List (Addr × Obj)) (s : Shared) (σ : St) (H : Hp) (E : Value → Shared → Prop), Inv X pins σ H s → (∀ b ∈ fp, FpOk X pins H b) → tn i s.heap → J.stop i H →
  wpAny (model P w) X.A (pyNext (.ref it)) (fun r s1 => r = none ∧ Inv X pins σ H s1) E s
 self : ∀ (A : Around) (i : Nat) (s : Shared) (Q : Value → Shared → Prop) (E : Value → Shared → Prop), tn i s.heap → Q (.ref it) s → wpAny (model P w) A (pyIter (.ref it)) Q E s
abbrev TI := St → Hp → (It → Hp → Prop) → Prop
def PIE (X : Cx) (pins : List (Addr × Obj)) (σ : St) (tg : Expr) (R : It → Hp → Prop) (itv : Value) (s2 : Shared) : Prop :=
 ∃ (it : Addr) (fp : List Addr) (tn : Nat → Heap → Prop) (J : It) (H' : Hp), itv = .ref it ∧ Inv X pins σ H' s2 ∧ Turn X.prog X.w X.K tg J fp it tn ∧ tn 0 s2.heap ∧ (∀ b ∈ fp, FpOk X pins H' b) ∧ R J H'
def PI (X : Cx) (tg iter : Expr) (wi : TI) : Prop :=
 ∀ (pins : List (Addr × Obj)) (s : Shared) (σ : St) (H : Hp) (R : It → Hp → Prop), Inv X pins σ H s → wi σ H R →
  wpAny (model X.prog X.w) X.A (eval iter X.env) (fun v s1 => wpAny (model X.prog X.w) X.A (pyIter v) (PIE X pins σ tg R) X.xe s1) X.xe s
theorem go_of {M : Model} {A : Around} {E : Value → Shared → Prop} {s : Shared} {tg : Expr} {it : Addr} {u : Value} {o : Obj} {n : String} {vs : Array Value} {Q : Unit → Shared → Prop} (ho : s.heap.get? it = some o) (hc : o.cls = .type n) (hd : o.data = .fields vs)
    (hn : ["enumerate", "zip", "dict_itemiterator", "dict_reverseitemiterator", "odict_iterator", "itertools.zip_longest", "itertools.pairwise"].contains n = false) (hQ : Q () s) : wpAny M A (letOwnedTupleGo tg (.ref it) u) Q E s := by
  unfold letOwnedTupleGo
  cases tg <;> first
    | exact wpAny_pure hQ
    | (cases u <;> first
        | exact wpAny_pure hQ
        | (refine wpAny_bind (wpAny_load ho ?_)
           rw [hc, hd]
           show wpAny M A (if (["enumerate", "zip", "dict_itemiterator", "dict_reverseitemiterator", "odict_iterator", "itertools.zip_longest", "itertools.pairwise"].contains n && vs[0]? == some (rawInt _)) = true then _ else _) Q E s
           rw [if_neg (by intro h; rw [hn, Bool.false_and] at h; cases h)]
           exact wpAny_pure hQ))
def Itl (K : PySem.W.Frag) (a : Addr) : It :=
 ⟨fun i H => ∃ xs x, SqL K H a xs ∧ xs[i]? = some x, fun i H x H' => H' = H ∧ ∀ xs, SqL K H a xs → xs[i]? = some x, fun i H => ∃ xs, SqL K H a xs ∧ xs.length ≤ i⟩
def Itr (lo : Int) (n : Nat) : It := ⟨fun i _ => i < n, fun i H x H' => H' = H ∧ x = .int (lo + i), fun i _ => n ≤ i⟩
theorem turn_list {P : Program} {w : World} {K : PySem.W.Frag} {tg : Expr} (a it : Addr) : Turn P w K tg (Itl K a) [it] it (fun i h => h.IsListIter it a i) where
 mem := by simp
 obj := fun i h st b hb => by
  have e : b = it := by simpa using hb
  subst e
  obtain ⟨o, e, c, d⟩ := st
  exact ⟨o, e, fun v z => by rw [d] at z; cases z⟩
 keep := fun i h h' st k => st.at fun o e => k it (by simp) o e
 item := by
  intro X hP hw hK hc i pins s σ H E I hf st hg
  subst hP hw hK
  obtain ⟨xs, x, hq, hx⟩ := hg
  obtain ⟨its, rv, p, hz⟩ := I.list hq
  obtain ⟨u, hu, ru⟩ := rv.get hx
  obtain ⟨f0, f1, f2, f3, f4, f5⟩ := hf it (by simp)
  refine wpAny_pyNext_list_item st p.isList (x := u) (by simpa using hu) fun h' st' sb => ?_
  have I1 : Inv X pins σ H { s with heap := h' } := I.turned (t' := s.toks) (fun b o hb e => (sb.2 b hb).trans e) f0 f1 f3 f4 f5
  obtain ⟨o, e, c, d⟩ := id st'
  exact ⟨u, rfl, go_of (s := { s with heap := h' }) e c d (by decide) ⟨x, H, I1, ru, ⟨rfl, fun ys hy => by rw [I.list_inj hy hq]; exact hx⟩, st', fun b hb => (hf b hb).1⟩⟩
 done := by
  intro X hP hw hK hc i pins s σ H E I hf st hg
  subst hP hw hK
  obtain ⟨xs, hq, hx⟩ := hg
  obtain ⟨its, rv, p, hz⟩ := I.list hq
  obtain ⟨f0, f1, f2, f3, f4, f5⟩ := hf it (by simp)
  have hl := rv.length
  exact wpAny_pyNext_list_end (I.ok.hd hc) st p.isList (by simp; omega) fun h' eb => ⟨rfl, I.turned (t' := s.toks) (fun b o hb e => eb b o hb e) f0 f1 f3 f4 f5⟩
 self := fun _ _ _ _ _ st h => wpAny_pyIter_listiter st h
theorem turn_range {P : Program} {w : World} {K : PySem.W.Frag} {tg : Expr} (it : Addr) (lo : Int) (n : Nat) : Turn P w K tg (Itr lo n) [it] it (fun i h => IsRangeIter h it (lo + (i : Nat) * 1) ((n : Int) - (i : Nat)) 1) where
 mem := by simp
 obj := fun i h st b hb => by
  have e : b = it := by simpa using hb
  subst e
  exact ⟨_, st, fun v z => by
   have z' : Data.fields _ = Data.cell v := z
   cases z'⟩
 keep := fun i h h' st k => k it (by simp) _ st
 item := by
  intro X hP hw hK hc i pins s σ H E I hf st hg
  subst hP hw hK
  obtain ⟨f0, f1, f2, f3, f4, f5⟩ := hf it (by simp)
  have W := Walks.range (prog := X.prog) (w := X.w) (I.ok.hd hc) it lo 1 n
  refine W.item i s _ _ hg st fun v h' tk hv st' kk => ?_
  obtain ⟨t, rfl⟩ := hv
  have I1 : Inv X pins σ H { s with heap := h', toks := tk } := I.turned (fun b o hb e => kk b o (by simpa using hb) e) f0 f1 f3 f4 f5
  refine ⟨_, rfl, go_of (s := { s with heap := h', toks := tk }) (n := "range_iterator") st' rfl rfl (by decide) ⟨.int (lo + i), H, I1, ⟨t, ?_⟩, ⟨rfl, rfl⟩, st', fun b hb => (hf b hb).1⟩⟩
  rw [Int.mul_one]
 done := by
  intro X hP hw hK hc i pins s σ H E I hf st hg
  subst hP hw hK
  obtain ⟨f0, f1, f2, f3, f4, f5⟩ := hf it (by simp)
  exact wpAny_pyNext_range_end (I.ok.hd hc) st (by have : n ≤ i := hg; omega) fun h' eb => ⟨rfl, I.turned (t' := s.toks) (fun b o hb e => eb b o hb e) f0 f1 f3 f4 f5⟩
 self := fun _ _ _ _ _ st h => wpAny_pyIter_rangeiter st h
end L2
namespace L2
open PySem PySem.Spec PyProof.Rows
section
variable {X : Cx} {tg : Expr}
def iList (K : PySem.W.Frag) (tl : TE) : TI := fun σ H R => tl σ H fun x H1 => ∃ a, x = .ref a ∧ (∃ xs, SqL K H1 a xs) ∧ R (Itl K a) H1
theorem pi_list {l : Expr} {tl : TE} (hl : PE X l tl) : PI X tg l (iList X.K tl) := by
 intro pins s σ H R I h
 refine thn (hl pins s σ H _ I h) fun v s1 ⟨x, H1, I1, r1, q1⟩ => ?_
 obtain ⟨a, e, ⟨xs, hq⟩, q⟩ := q1
 subst e
 cases r1
 obtain ⟨its, rv, p, hz⟩ := I1.list hq
 refine wpAny_pyIter_list p.isList ?_
 refine ⟨s1.heap.objs.size, [s1.heap.objs.size], _, _, H1, rfl, I1.kept (t' := s1.toks) fun b o e => Heap.get?_push_of_some _ e, turn_list a _, ⟨_, Heap.get?_push_size _ rfl, rfl, rfl⟩, fun b hb => ?_, q⟩
 have e : b = s1.heap.objs.size := by simpa using hb
 subst e
 exact I1.fpOk (Nat.le_refl _) (I1.hok.fresh (Nat.le_refl _))
theorem range_it {pins : List (Addr × Obj)} {σ : St} {H : Hp} {s : Shared} {R : It → Hp → Prop} {E : Value → Shared → Prop} {lo hi : Int} {t u v : Tok} {tk : Nat} (I : Inv X pins σ H s) (h1 : -(2 ^ 62) ≤ lo) (h2 : lo < 2 ^ 62) (h3 : -(2 ^ 62) ≤ hi) (h4 : hi < 2 ^ 62)
  (q : R (Itr lo (hi - lo).toNat) H) : wpAny (model X.prog X.w) X.A (pyIter (.ref s.heap.objs.size)) (PIE X pins σ tg R) E { s with heap := s.heap.push { cls := .type "range", data := .fields #[.int lo t, .int hi u, .int 1 v] }, toks := tk } := by
 refine wpAny_pyIter_range (IsRange.new ..) (small_one h1 h2 h3 h4) ?_
 have I1 : Inv X pins σ H { s with heap := s.heap.push { cls := .type "range", data := .fields #[.int lo t, .int hi u, .int 1 v] }, toks := tk } := I.kept fun b o e => Heap.get?_push_of_some _ e
 refine ⟨(s.heap.push { cls := .type "range", data := .fields #[.int lo t, .int hi u, .int 1 v] }).objs.size, [(s.heap.push { cls := .type "range", data := .fields #[.int lo t, .int hi u, .int 1 v] }).objs.size], _, _, H, rfl,
  I1.kept (t' := tk) fun b o e => Heap.get?_push_of_some _ e, turn_range _ lo (hi - lo).toNat, ?_, fun b hb => ?_, q⟩
 ·have e1 : lo + ((0 : Nat) : Int) * 1 = lo := by simp
  have e2 : (((hi - lo).toNat : Nat) : Int) - ((0 : Nat) : Int) = Builtin.Range.rangeSize lo hi 1 := by rw [rangeSize_one]; split <;> omega
  show IsRangeIter _ _ (lo + ((0 : Nat) : Int) * 1) ((((hi - lo).toNat : Nat) : Int) - ((0 : Nat) : Int)) 1
  rw [e1, e2]
  exact Heap.get?_push_size _ rfl
 ·have e : b = (s.heap.push { cls := .type "range", data := .fields #[.int lo t, .int hi u, .int 1 v] }).objs.size := by simpa using hb
  subst e
  exact I1.fpOk (Nat.le_refl _) (I1.hok.fresh (Nat.le_refl _))
def iRng2 (ta : TA) : TI := fun σ H R => ta σ H fun vs H1 => ∃ i j : Int, vs = [.int i, .int j] ∧ (-(2 ^ 62) ≤ i ∧ i < 2 ^ 62 ∧ -(2 ^ 62) ≤ j ∧ j < 2 ^ 62) ∧ R (Itr i (j - i).toNat) H1
theorem pi_range2 {a b : Expr} {ta : TA} {p pos : Pos} (hg : Gl X "range") (hm : X.mg "range" = none) (ha : PA X [a, b] ta) (hs : starEach [a, b] X.env = [(false, eval a X.env), (false, eval b X.env)] := by rfl) (hs2 : starEach [b] X.env = [(false, eval b X.env)] := by rfl) :
  PI X tg (.Call (.Name "range" p) [a, b] [] pos) (iRng2 ta) := by
 intro pins s σ H R I h
 refine Call_ (ld_blt I hg hm boot_range (PyProof.Rows.callWith_type1 (thn (ha pos pins s σ H _ I h) fun us s1 ⟨vs, H1, I1, r1, q1⟩ => ?_) (by rw [hs, hs2]) (by rw [hs2]; rfl)))
 obtain ⟨i, j, e, ⟨q1, q2, q3, q4⟩, q⟩ := q1
 subst e
 cases r1 with
 | cons r rr =>
  cases rr with
  | cons r' rr =>
   cases rr
   obtain ⟨t, rfl⟩ := r
   obtain ⟨t', rfl⟩ := r'
   exact call_range_2 (range_it I1 q1 q2 q3 q4 q)
def tFor (wi : TI) (g : TG) (tb : TS) : TS := fun D σ H => wi σ H fun J H1 => ∃ W : Nat → Nat → St → Hp → Prop, (∃ m, W 0 m σ H1) ∧ ∀ i m σ H, W i m σ H →
 (J.stop i H ∧ D.nx σ H) ∨ (J.go i H ∧ ∃ N : St → Hp → Prop, (∀ σ' H', N σ' H' → ∃ m', m' < m ∧ W (i + 1) m' σ' H') ∧ ∀ x H', J.yld i H x H' → g x σ H' fun σ2 H2 => tb { D with nx := N, ct := N, bk := D.nx } σ2 H2)
def pinsAt (fp : List Addr) (h : Heap) : List (Addr × Obj) := fp.filterMap fun b => (h.get? b).map fun o => (b, o)
theorem mem_pinsAt {fp : List Addr} {h : Heap} {b : Addr} {o : Obj} (hb : b ∈ fp) (e : h.get? b = some o) : (b, o) ∈ pinsAt fp h := List.mem_filterMap.mpr ⟨b, hb, by rw [e]; rfl⟩
theorem of_pinsAt {fp : List Addr} {h : Heap} {p : Addr × Obj} (hp : p ∈ pinsAt fp h) : p.1 ∈ fp ∧ h.get? p.1 = some p.2 := by
 obtain ⟨b, hb, e⟩ := List.mem_filterMap.mp hp
 cases q : h.get? b with
 | none => rw [q] at e; cases e
 | some o =>
  rw [q] at e
  have e' : (b, o) = p := Option.some.inj e
  subst e'
  exact ⟨hb, q⟩
theorem Inv.pinned {pins : List (Addr × Obj)} {σ : St} {H : Hp} {s : Shared} {fp : List Addr} (I : Inv X pins σ H s) (hf : ∀ b ∈ fp, FpOk X pins H b) (ho : ∀ b ∈ fp, ∃ o, s.heap.get? b = some o ∧ ∀ v, o.data ≠ .cell v) : Inv X (pins ++ pinsAt fp s.heap) σ H s :=
 I.pins_of fun p hp => (List.mem_append.mp hp).elim (fun z => I.pin p (List.mem_append_right _ z)) fun z => by
  obtain ⟨hb, e⟩ := of_pinsAt z
  obtain ⟨f0, f1, f2, _⟩ := hf p.1 hb
  obtain ⟨o, e', d⟩ := ho p.1 hb
  rw [e] at e'; cases e'
  exact ⟨e, f0, f1, f2, d⟩
theorem Inv.unpinned {pins pl : List (Addr × Obj)} {σ : St} {H : Hp} {s : Shared} (I : Inv X (pins ++ pl) σ H s) : Inv X pins σ H s := I.pins_of fun p hp => I.pin p (List.mem_append_right _ (List.mem_append_left _ hp))
theorem ps_for {iter : Expr} {body : List Stmt} {wi : TI} {g : TG} {tb : TS} {pos : Pos} (hp : PassesOwn (model X.prog X.w) X.A X.env X.xe) (hc : X.calm = true) (hi : PI X tg iter wi) (hg : PG X tg g) (hb : PSs X body tb)
  (hs : ∀ x, foldedSetIterable iter X.env x = pure x := by intro _; rfl) : PS X (.For tg iter body [] pos) (tFor wi g tb) := by
 intro pins s σ H D I h
 refine wpAny_For (thn (hi pins s σ H _ I h) fun v s1 h1 => thn h1 fun itv s2 h2 => ?_) hs
 obtain ⟨it, fp, tn, J, H2, e, I2, T, st2, f2, W, ⟨m0, w0⟩, turn⟩ := h2
 subst e
 have stat : ∀ {H' : Hp}, (∀ b ∈ fp, H' b = none) → ∀ b ∈ fp, FpOk X pins H' b := fun hn b hb => ⟨hn b hb, (f2 b hb).2⟩
 refine codeAny_forLoop_any (fun n s' => ∃ i σ' H', Inv X pins σ' H' s' ∧ tn i s'.heap ∧ (∀ b ∈ fp, H' b = none) ∧ W i n σ' H') ?_ m0 ⟨0, σ, H2, I2, st2, fun b hb => (f2 b hb).1, w0⟩
 rintro n s3 ⟨i, σ3, H3, I3, st3, fr3, w3⟩
 rcases turn i n σ3 H3 w3 with ⟨stop, qn⟩ | ⟨go, N, hN, step⟩
 ·refine wpAny_passesOwn hp (thn (T.done X rfl rfl rfl hc i pins s3 σ3 H3 X.xe I3 (stat fr3) st3 stop) fun r s4 ⟨hr, I4⟩ => ?_)
  subst hr
  exact wpAny_execs_nil ⟨σ3, H3, I4, qn⟩
 ·refine wpAny_passesOwn hp (thn (T.item X rfl rfl rfl hc i pins s3 σ3 H3 X.xe I3 (stat fr3) st3 go) fun r s4 ⟨u, hr, h4⟩ => ?_)
  subst hr
  refine wpAny_passesOwn hp (thn h4 fun _ s5 ⟨x, H5, I5, r5, y5, st5, fr5⟩ => ?_)
  have I5' := I5.pinned (stat fr5) (T.obj _ _ st5)
  refine wpAny_passesOwn hp (thn (hg _ s5 σ3 H5 x u _ I5' r5 (step x H5 y5)) fun _ s6 ⟨σ6, H6, I6, q6⟩ => ?_)
  refine wpAny_passesOwn hp (thn (hb _ s6 σ6 H6 _ I6 q6) fun f s7 q7 => ?_)
  have again : ∀ {σ7 : St} {H7 : Hp}, Inv X (pins ++ pinsAt fp s5.heap) σ7 H7 s7 → N σ7 H7 → ∃ m, m < n ∧ ∃ i σ' H', Inv X pins σ' H' s7 ∧ tn i s7.heap ∧ (∀ b ∈ fp, H' b = none) ∧ W i m σ' H' := fun {σ7 H7} I7 n7 => by
   obtain ⟨m', hm, w7⟩ := hN σ7 H7 n7
   refine ⟨m', hm, i + 1, σ7, H7, I7.unpinned, T.keep _ _ _ st5 fun b hb o e => (I7.pin (b, o) (List.mem_append_right _ (List.mem_append_right _ (mem_pinsAt hb e)))).1, fun b hb => ?_, w7⟩
   obtain ⟨o, e, d⟩ := T.obj _ _ st5 b hb
   exact (I7.pin (b, o) (List.mem_append_right _ (List.mem_append_right _ (mem_pinsAt hb e)))).2.1
  cases f with
  | next => obtain ⟨σ7, H7, I7, n7⟩ := q7; exact again I7 n7
  | cont => obtain ⟨σ7, H7, I7, n7⟩ := q7; exact again I7 n7
  | brk => obtain ⟨σ7, H7, I7, q7⟩ := q7; exact ⟨σ7, H7, I7.unpinned, q7⟩
  | ret v => obtain ⟨x7, σ7, H7, I7, r7, q7⟩ := q7; exact ⟨x7, σ7, H7, I7.unpinned, r7, q7⟩
end
theorem for_list {K : PySem.W.Frag} {a : Addr} {xs : List V} {g : TG} {tb : TS} {D : Ends} {σ : St} {H : Hp} (Pv : Nat → St → Hp → Prop) (h0 : Pv 0 σ H) (hl : ∀ i σ H, i ≤ xs.length → Pv i σ H → SqL K H a xs)
  (hs : ∀ i x σ H, xs[i]? = some x → Pv i σ H → g x σ H fun σ2 H2 => tb { D with nx := Pv (i + 1), ct := Pv (i + 1), bk := D.nx } σ2 H2) (hd : ∀ σ H, Pv xs.length σ H → D.nx σ H) :
  ∃ W : Nat → Nat → St → Hp → Prop, (∃ m, W 0 m σ H) ∧ ∀ i m σ H, W i m σ H →
   ((Itl K a).stop i H ∧ D.nx σ H) ∨ ((Itl K a).go i H ∧ ∃ N : St → Hp → Prop, (∀ σ' H', N σ' H' → ∃ m', m' < m ∧ W (i + 1) m' σ' H') ∧ ∀ x H', (Itl K a).yld i H x H' → g x σ H' fun σ2 H2 => tb { D with nx := N, ct := N, bk := D.nx } σ2 H2) := by
 refine ⟨fun i m σ H => m = xs.length - i ∧ i ≤ xs.length ∧ Pv i σ H, ⟨xs.length, by simp, Nat.zero_le _, h0⟩, ?_⟩
 rintro i m σ H ⟨rfl, hi, p⟩
 have q := hl i σ H hi p
 by_cases hlt : i < xs.length
 ·refine .inr ⟨⟨xs, xs[i], q, by simp [hlt]⟩, Pv (i + 1), fun σ' H' p' => ⟨xs.length - (i + 1), by omega, rfl, hlt, p'⟩, fun x H' y => ?_⟩
  obtain ⟨e, y⟩ := y
  subst e
  exact hs i x σ _ (y xs q) p
 ·have e : i = xs.length := by omega
  subst e
  exact .inl ⟨⟨xs, q, Nat.le_refl _⟩, hd σ H p⟩
theorem for_range {lo : Int} {n : Nat} {g : TG} {tb : TS} {D : Ends} {σ : St} {H : Hp} (Pv : Nat → St → Hp → Prop) (h0 : Pv 0 σ H)
  (hs : ∀ i σ H, i < n → Pv i σ H → g (.int (lo + i)) σ H fun σ2 H2 => tb { D with nx := Pv (i + 1), ct := Pv (i + 1), bk := D.nx } σ2 H2) (hd : ∀ σ H, Pv n σ H → D.nx σ H) :
  ∃ W : Nat → Nat → St → Hp → Prop, (∃ m, W 0 m σ H) ∧ ∀ i m σ H, W i m σ H →
   ((Itr lo n).stop i H ∧ D.nx σ H) ∨ ((Itr lo n).go i H ∧ ∃ N : St → Hp → Prop, (∀ σ' H', N σ' H' → ∃ m', m' < m ∧ W (i + 1) m' σ' H') ∧ ∀ x H', (Itr lo n).yld i H x H' → g x σ H' fun σ2 H2 => tb { D with nx := N, ct := N, bk := D.nx } σ2 H2) := by
 refine ⟨fun i m σ H => m = n - i ∧ i ≤ n ∧ Pv i σ H, ⟨n, by simp, Nat.zero_le _, h0⟩, ?_⟩
 rintro i m σ H ⟨rfl, hi, p⟩
 by_cases hlt : i < n
 ·refine .inr ⟨hlt, Pv (i + 1), fun σ' H' p' => ⟨n - (i + 1), by omega, rfl, hlt, p'⟩, fun x H' y => ?_⟩
  obtain ⟨e, y⟩ := y
  subst e y
  exact hs i σ _ hlt p
 ·have e : i = n := by omega
  subst e
  exact .inl ⟨Nat.le_refl _, hd σ H p⟩
end L2
namespace L2
open PySem PySem.Spec PyProof.Rows
abbrev R2 := V → V → Hp → VK → Prop
def OpR (X : Cx) (f : Value → Value → Sem Value) (r : R2) : Prop :=
 ∀ (pins : List (Addr × Obj)) (s : Shared) (σ : St) (H : Hp) (x y : V) (v u : Value) (Q : VK), Inv X pins σ H s → RelV x v → RelV y u → r x y H Q →
  wpAny (model X.prog X.w) X.A (f v u) (EP X pins σ Q) X.xe s
def UnR (X : Cx) (f : Value → Sem Value) (r : V → Hp → VK → Prop) : Prop :=
 ∀ (pins : List (Addr × Obj)) (s : Shared) (σ : St) (H : Hp) (x : V) (v : Value) (Q : VK), Inv X pins σ H s → RelV x v → r x H Q →
  wpAny (model X.prog X.w) X.A (f v) (EP X pins σ Q) X.xe s
def CallR (X : Cx) (f : Value) (r : List V → Hp → VK → Prop) : Prop :=
 ∀ (pins : List (Addr × Obj)) (s : Shared) (σ : St) (H : Hp) (xs : List V) (us : List Value) (Q : VK), Inv X pins σ H s → Vals xs us → r xs H Q →
  wpAny (model X.prog X.w) X.A (call f us) (EP X pins σ Q) X.xe s
def TruR (X : Cx) (r : V → Hp → (Bool → Hp → Prop) → Prop) : Prop :=
 ∀ (pins : List (Addr × Obj)) (s : Shared) (σ : St) (H : Hp) (x : V) (v : Value) (Q : Bool → Hp → Prop), Inv X pins σ H s → RelV x v → r x H Q →
  wpAny (model X.prog X.w) X.A (truthy v) (TP X pins σ Q) X.xe s
def tOp (r : R2) (ta tb : TE) : TE := fun σ H Q => ta σ H fun x H1 => tb σ H1 fun y H2 => r x y H2 Q
def tUn (r : V → Hp → VK → Prop) (ta : TE) : TE := fun σ H Q => ta σ H fun x H1 => r x H1 Q
def rI0 (g : Int → Int → V) : R2 := fun x y H Q => ∃ i j, x = .int i ∧ y = .int j ∧ Q (g i j) H
def rU (g : Int → V) : V → Hp → VK → Prop := fun x H Q => ∃ i, x = .int i ∧ Q (g i) H
section
variable {X : Cx} {a b c : Expr} {ta tb tc : TE} {pos : Pos}
theorem binT (ha : PE X a ta) (hb : PE X b tb) {pins : List (Addr × Obj)} {s : Shared} {σ : St} {H : Hp} {R : V → V → Hp → Prop} (I : Inv X pins σ H s)
  (h : ta σ H fun x H1 => tb σ H1 fun y H2 => R x y H2) {Q : Value → Shared → Prop} {f : Value → Value → Sem Value}
  (hf : ∀ v u s2 x y H2, Inv X pins σ H2 s2 → RelV x v → RelV y u → R x y H2 → wpAny (model X.prog X.w) X.A (f v u) Q X.xe s2) :
  wpAny (model X.prog X.w) X.A (eval a X.env) (fun v s₁ => wpAny (model X.prog X.w) X.A (eval b X.env) (fun u s₂ => wpAny (model X.prog X.w) X.A (f v u) Q X.xe s₂) X.xe s₁) X.xe s := by
 refine thn (ha pins s σ H _ I h) fun v s1 ⟨x, H1, I1, r1, q1⟩ => ?_
 refine thn (hb pins s1 σ H1 _ I1 q1) fun u s2 ⟨y, H2, I2, r2, q2⟩ => ?_
 exact hf v u s2 x y H2 I2 r1 r2 q2
theorem pe_op {op : Operator} {r : R2} (ho : OpR X (binaryOp op) r) (ha : PE X a ta) (hb : PE X b tb) : PE X (.BinOp a op b pos) (tOp r ta tb) := by
 intro pins s σ H Q I h
 exact wpAny_BinOp (binT ha hb I h fun v u s2 x y H2 I2 rx ry q => ho pins s2 σ H2 x y v u Q I2 rx ry q)
theorem pe_un {op : UnaryOp} {r : V → Hp → VK → Prop} (ho : UnR X (unaryOp op) r) (ha : PE X a ta) : PE X (.UnaryOp op a pos) (tUn r ta) := by
 intro pins s σ H Q I h
 exact UnaryOp_ (thn (ha pins s σ H _ I h) fun v s1 ⟨x, H1, I1, r1, q1⟩ => ho pins s1 σ H1 x v Q I1 r1 q1)
theorem opI0 {f : Value → Value → Sem Value} {g : Int → Int → Int}
  (rule : ∀ (i j : Int) (t u : Tok) (s : Shared) (Q : Value → Shared → Prop) (E : Value → Shared → Prop), Q (.int (g i j) s.toks) { s with toks := s.toks + 1 } → wpAny (model X.prog X.w) X.A (f (.int i t) (.int j u)) Q E s) :
  OpR X f (rI0 fun i j => .int (g i j)) := by
 intro pins s σ H x y v u Q I rx ry h
 obtain ⟨i, j, rfl, rfl, q⟩ := h
 obtain ⟨t, rfl⟩ := rx
 obtain ⟨t', rfl⟩ := ry
 exact rule i j t t' s _ _ ⟨.int (g i j), H, I.tok _, ⟨_, rfl⟩, q⟩
theorem opB0 {f : Value → Value → Sem Value} {g : Int → Int → Bool}
  (rule : ∀ (i j : Int) (t u : Tok) (s : Shared) (Q : Value → Shared → Prop) (E : Value → Shared → Prop), Q (.bool (g i j)) s → wpAny (model X.prog X.w) X.A (f (.int i t) (.int j u)) Q E s) :
  OpR X f (rI0 fun i j => .bl (g i j)) := by
 intro pins s σ H x y v u Q I rx ry h
 obtain ⟨i, j, rfl, rfl, q⟩ := h
 obtain ⟨t, rfl⟩ := rx
 obtain ⟨t', rfl⟩ := ry
 exact rule i j t t' s _ _ ⟨.bl (g i j), H, I, rfl, q⟩
theorem op_add : OpR X (binaryOp .Add) (rI0 fun i j => .int (i + j)) := opI0 fun _ _ _ _ _ _ _ q => add_int q
theorem op_sub : OpR X (binaryOp .Sub) (rI0 fun i j => .int (i - j)) := opI0 fun _ _ _ _ _ _ _ q => sub_int q
theorem unI {f : Value → Sem Value} {g : Int → Int}
  (rule : ∀ (i : Int) (t : Tok) (s : Shared) (Q : Value → Shared → Prop) (E : Value → Shared → Prop), Q (.int (g i) s.toks) { s with toks := s.toks + 1 } → wpAny (model X.prog X.w) X.A (f (.int i t)) Q E s) :
  UnR X f (rU fun i => .int (g i)) := by
 intro pins s σ H x v Q I rx h
 obtain ⟨i, rfl, q⟩ := h
 obtain ⟨t, rfl⟩ := rx
 exact rule i t s _ _ ⟨.int (g i), H, I.tok _, ⟨_, rfl⟩, q⟩
theorem un_neg : UnR X (unaryOp .USub) (rU fun i => .int (-i)) := unI fun _ _ _ _ _ q => neg_int q
end
def scal : V → V → Bool
 | .non, .non => true | .non, .int _ => true | .int _, .non => true | .non, .bl _ => true | .bl _, .non => true | .non, .str _ => true | .str _, .non => true
 | .int _, .int _ => true | .bl _, .bl _ => true | .str _, .str _ => true | .byt _, .byt _ => true
 | .int _, .str _ => true | .str _, .int _ => true | .bl _, .str _ => true | .str _, .bl _ => true
 | _, _ => false
def rEq : R2 := fun x y H Q => scal x y = true ∧ Q (.bl (decide (x = y))) H
def rNe : R2 := fun x y H Q => scal x y = true ∧ Q (.bl (!decide (x = y))) H
theorem dec_int {i j : Int} : decide (V.int i = V.int j) = (i == j) := by
 rw [Bool.eq_iff_iff]
 simp
theorem dec_bl {i j : Bool} : decide (V.bl i = V.bl j) = (i == j) := by
 rw [Bool.eq_iff_iff]
 simp
theorem dec_str {i j : Str} : decide (V.str i = V.str j) = (i == j) := by
 rw [Bool.eq_iff_iff]
 simp
theorem dec_byt {i j : Array UInt8} : decide (V.byt i = V.byt j) = (i.toList == j.toList) := by
 rw [Bool.eq_iff_iff]
 cases i
 cases j
 simp
section
variable {X : Cx} {a b c : Expr} {ta tb tc : TE} {pos : Pos}
theorem fin_bl {pins : List (Addr × Obj)} {σ : St} {H : Hp} {s : Shared} {Q : VK} {k k' : Bool} (I : Inv X pins σ H s) (q : Q (.bl k) H) (e : k = k') : EP X pins σ Q (.bool k') s := by
 subst e
 exact ⟨.bl k, H, I, rfl, q⟩
theorem op_eq : OpR X (compareOp .Eq) rEq := by
 intro pins s σ H x y v u Q I rx ry h
 obtain ⟨hs, q⟩ := h
 cases x with
 | non =>
  cases rx
  cases y with
  | non => cases ry; exact PySem.EqNone.eq_none_none (fin_bl I q (by simp))
  | bl j => cases ry; exact PySem.EqNone.eq_none_bool (fin_bl I q (by simp))
  | int j => obtain ⟨t', rfl⟩ := ry; exact PySem.EqNone.eq_none_int (fin_bl I q (by simp))
  | str j => obtain ⟨t', rfl⟩ := ry; exact PySem.EqNone.eq_none_str (fin_bl I q (by simp))
  | _ => exact absurd (show false = true from hs) Bool.false_ne_true
 | bl i =>
  cases rx
  cases y with
  | non => cases ry; exact PySem.EqNone.eq_bool_none (fin_bl I q (by simp))
  | bl j => cases ry; exact eq_bool (fin_bl I q dec_bl)
  | str j => obtain ⟨t', rfl⟩ := ry; exact PySem.EqMixed.eq_bool_str (fin_bl I q (by simp))
  | _ => exact absurd (show false = true from hs) Bool.false_ne_true
 | int i =>
  obtain ⟨t, rfl⟩ := rx
  cases y with
  | non => cases ry; exact PySem.EqNone.eq_int_none (fin_bl I q (by simp))
  | int j => obtain ⟨t', rfl⟩ := ry; exact eq_int (fin_bl I q dec_int)
  | str j => obtain ⟨t', rfl⟩ := ry; exact PySem.EqMixed.eq_int_str (fin_bl I q (by simp))
  | _ => exact absurd (show false = true from hs) Bool.false_ne_true
 | str i =>
  obtain ⟨t, rfl⟩ := rx
  cases y with
  | non => cases ry; exact PySem.EqNone.eq_str_none (fin_bl I q (by simp))
  | bl j => cases ry; exact PySem.EqMixed.eq_str_bool (fin_bl I q (by simp))
  | int j => obtain ⟨t', rfl⟩ := ry; exact PySem.EqMixed.eq_str_int (fin_bl I q (by simp))
  | str j => obtain ⟨t', rfl⟩ := ry; exact eq_str (fin_bl I q dec_str)
  | _ => exact absurd (show false = true from hs) Bool.false_ne_true
 | byt i =>
  obtain ⟨t, rfl⟩ := rx
  cases y with
  | byt j => obtain ⟨t', rfl⟩ := ry; exact PySem.W.eq_bytes (fin_bl I q dec_byt)
  | _ => exact absurd (show false = true from hs) Bool.false_ne_true
 | _ => cases y <;> exact absurd (show false = true from hs) Bool.false_ne_true
theorem op_ne : OpR X (compareOp .NotEq) rNe := by
 intro pins s σ H x y v u Q I rx ry h
 obtain ⟨hs, q⟩ := h
 cases x with
 | non =>
  cases rx
  cases y with
  | non => cases ry; exact PySem.EqNone.ne_none_none (fin_bl I q (by simp))
  | bl j => cases ry; exact PySem.EqNone.ne_none_bool (fin_bl I q (by simp))
  | int j => obtain ⟨t', rfl⟩ := ry; exact PySem.EqNone.ne_none_int (fin_bl I q (by simp))
  | str j => obtain ⟨t', rfl⟩ := ry; exact PySem.EqNone.ne_none_str (fin_bl I q (by simp))
  | _ => exact absurd (show false = true from hs) Bool.false_ne_true
 | bl i =>
  cases rx
  cases y with
  | non => cases ry; exact PySem.EqNone.ne_bool_none (fin_bl I q (by simp))
  | bl j => cases ry; exact ne_bool (fin_bl I q (congrArg not dec_bl))
  | str j => obtain ⟨t', rfl⟩ := ry; exact PySem.EqMixed.ne_bool_str (fin_bl I q (by simp))
  | _ => exact absurd (show false = true from hs) Bool.false_ne_true
 | int i =>
  obtain ⟨t, rfl⟩ := rx
  cases y with
  | non => cases ry; exact PySem.EqNone.ne_int_none (fin_bl I q (by simp))
  | int j => obtain ⟨t', rfl⟩ := ry; exact ne_int (fin_bl I q (congrArg not dec_int))
  | str j => obtain ⟨t', rfl⟩ := ry; exact PySem.EqMixed.ne_int_str (fin_bl I q (by simp))
  | _ => exact absurd (show false = true from hs) Bool.false_ne_true
 | str i =>
  obtain ⟨t, rfl⟩ := rx
  cases y with
  | non => cases ry; exact PySem.EqNone.ne_str_none (fin_bl I q (by simp))
  | bl j => cases ry; exact PySem.EqMixed.ne_str_bool (fin_bl I q (by simp))
  | int j => obtain ⟨t', rfl⟩ := ry; exact PySem.EqMixed.ne_str_int (fin_bl I q (by simp))
  | str j => obtain ⟨t', rfl⟩ := ry; exact ne_str (fin_bl I q (congrArg not dec_str))
  | _ => exact absurd (show false = true from hs) Bool.false_ne_true
 | byt i =>
  obtain ⟨t, rfl⟩ := rx
  cases y with
  | byt j => obtain ⟨t', rfl⟩ := ry; exact PySem.W.ne_bytes (fin_bl I q (congrArg not dec_byt))
  | _ => exact absurd (show false = true from hs) Bool.false_ne_true
 | _ => cases y <;> exact absurd (show false = true from hs) Bool.false_ne_true
theorem op_lt : OpR X (compareOp .Lt) (rI0 fun i j => .bl (decide (i < j))) := opB0 fun _ _ _ _ _ _ _ q => lt_int q
theorem op_le : OpR X (compareOp .LtE) (rI0 fun i j => .bl (decide (i ≤ j))) := opB0 fun _ _ _ _ _ _ _ q => le_int q
theorem op_gt : OpR X (compareOp .Gt) (rI0 fun i j => .bl (decide (j < i))) := opB0 fun _ _ _ _ _ _ _ q => gt_int q
theorem op_ge : OpR X (compareOp .GtE) (rI0 fun i j => .bl (decide (j ≤ i))) := opB0 fun _ _ _ _ _ _ _ q => ge_int q
theorem op_isN : OpR X (compareOp .Is) (fun x y H Q => y = .non ∧ Q (.bl (decide (x = .non))) H) := by
 intro pins s σ H x y v u Q I rx ry h
 obtain ⟨rfl, q⟩ := h
 cases ry
 refine is_none_gen (fin_bl I q ?_)
 cases x <;> first
  | (cases rx; rfl)
  | (obtain ⟨t, rfl⟩ := rx; rfl)
theorem op_notN : OpR X (compareOp .IsNot) (fun x y H Q => y = .non ∧ Q (.bl (!decide (x = .non))) H) := by
 intro pins s σ H x y v u Q I rx ry h
 obtain ⟨rfl, q⟩ := h
 cases ry
 refine isnot_none_gen (fin_bl I q ?_)
 cases x <;> first
  | (cases rx; rfl)
  | (obtain ⟨t, rfl⟩ := rx; rfl)
theorem nomark (b : Expr) {op : CmpOp} (h : op ≠ .In := by decide) (h2 : op ≠ .NotIn := by decide) : behindInMarks op b = false := by
 have e1 : (op == CmpOp.In) = false := by cases op <;> first | rfl | exact absurd rfl h
 have e2 : (op == CmpOp.NotIn) = false := by cases op <;> first | rfl | exact absurd rfl h2
 cases b <;> simp [behindInMarks, e1, e2]
theorem pe_cmpR {op : CmpOp} {r : R2} (ho : OpR X (compareOp op) r) (ha : PE X a ta) (hb : PE X b tb) (hm : behindInMarks op b = false) : PE X (.Compare a [op] [b] pos) (tOp r ta tb) := by
 intro pins s σ H Q I h
 exact wpAny_Compare1 (binT ha hb I h fun v u s2 x y H2 I2 rx ry q => ho pins s2 σ H2 x y v u Q I2 rx ry q) hm
def tTest (t : TE) : TT := fun σ H Q => t σ H fun x H' => ∃ k, x = .bl k ∧ Q k H'
theorem pt_cmpR {op : CmpOp} {r : R2} (ho : OpR X (compareOp op) r) (ha : PE X a ta) (hb : PE X b tb) (hm : behindInMarks op b = false) : PT X (.Compare a [op] [b] pos) (tTest (tOp r ta tb)) := by
 intro pins s σ H Q I h
 refine wpAny_isTrue_Compare1 (thn (ha pins s σ H _ I h) fun v s1 ⟨x, H1, I1, r1, q1⟩ => thn (hb pins s1 σ H1 _ I1 q1) fun u s2 ⟨y, H2, I2, r2, q2⟩ =>
  thn (ho pins s2 σ H2 x y v u _ I2 r1 r2 q2) fun c s3 ⟨z, H3, I3, r3, k, e, q3⟩ => ?_) hm
 subst e
 cases r3
 exact wpAny_truthy_bool ⟨H3, I3, q3⟩
def tChain (r r' : R2) (ta tb tc : TE) : TE := fun σ H Q => ta σ H fun x H1 => tb σ H1 fun y H2 => r x y H2 fun z H3 => ∃ k, z = .bl k ∧
 (if k = true then tc σ H3 fun w' H4 => r' y w' H4 Q else Q (.bl false) H3)
theorem pe_chain {op op' : CmpOp} {r r' : R2} (ho : OpR X (compareOp op) r) (ho' : OpR X (compareOp op') r') (ha : PE X a ta) (hb : PE X b tb) (hc : PE X c tc)
  (hm : lastMarks [op, op'] [b, c] = false := by with_unfolding_all rfl) : PE X (.Compare a [op, op'] [b, c] pos) (tChain r r' ta tb tc) := by
 intro pins s σ H Q I h
 refine Compare_chain (thn (ha pins s σ H _ I h) fun v s1 ⟨x, H1, I1, r1, q1⟩ => chain_link (thn (hb pins s1 σ H1 _ I1 q1) fun u s2 ⟨y, H2, I2, r2, q2⟩ =>
  thn (ho pins s2 σ H2 x y v u _ I2 r1 r2 q2) fun d s3 ⟨z, H3, I3, r3, k, e, q3⟩ => ?_)) hm
 subst e
 cases r3
 refine wpAny_truthy_bool ?_
 cases k with
 | false => exact ite_ff ⟨.bl false, H3, I3, rfl, q3⟩
 | true => exact ite_tt (chain_last (thn (hc pins s3 σ H3 _ I3 q3) fun w' s4 ⟨z', H4, I4, r4, q4⟩ => ho' pins s4 σ H4 y z' u w' Q I4 r2 r4 q4))
theorem pt_chain {op op' : CmpOp} {r r' : R2} (ho : OpR X (compareOp op) r) (ho' : OpR X (compareOp op') r') (ha : PE X a ta) (hb : PE X b tb) (hc : PE X c tc)
  (hm : lastMarks [op, op'] [b, c] = false := by with_unfolding_all rfl) : PT X (.Compare a [op, op'] [b, c] pos) (tTest (tChain r r' ta tb tc)) := by
 intro pins s σ H Q I h
 refine isTrue_chain (thn (ha pins s σ H _ I h) fun v s1 ⟨x, H1, I1, r1, q1⟩ => test_link (thn (hb pins s1 σ H1 _ I1 q1) fun u s2 ⟨y, H2, I2, r2, q2⟩ =>
  thn (ho pins s2 σ H2 x y v u _ I2 r1 r2 q2) fun d s3 ⟨z, H3, I3, r3, k, e, q3⟩ => ?_)) hm
 subst e
 cases r3
 refine wpAny_truthy_bool ?_
 cases k with
 | false =>
  obtain ⟨k', e', q'⟩ := q3
  cases e'
  exact ite_ff ⟨H3, I3, q'⟩
 | true =>
  refine ite_tt (test_last (thn (hc pins s3 σ H3 _ I3 q3) fun w' s4 ⟨z', H4, I4, r4, q4⟩ => thn (ho' pins s4 σ H4 y z' u w' _ I4 r2 r4 q4) fun d' s5 ⟨z2, H5, I5, r5, k2, e2, q5⟩ => ?_))
  subst e2
  cases r5
  exact wpAny_truthy_bool ⟨H5, I5, q5⟩
def TruV (K : PySem.W.Frag) (x : V) (H : Hp) (k : Bool) : Prop :=
 match x with
 | .non => k = false
 | .bl b => k = b
 | .int i => k = (i != 0)
 | .str y => y.length ≤ sizeLine ∧ k = ((y.length : Int) != 0)
 | .byt y => y.size ≤ sizeLine ∧ k = ((y.size : Int) != 0)
 | .ref p => (∃ xs, SqL K H p xs ∧ k = !xs.isEmpty) ∨ (∃ xs, SqT K H p xs ∧ k = !xs.isEmpty) ∨ ∃ kvs, H p = some (.dK kvs) ∧ k = !kvs.isEmpty
 | _ => False
theorem isEmpty_kv {κ : Type} {kvs : List (κ × V)} {vs : List (κ × Value)} (r : KV kvs vs) : (!vs.isEmpty) = !kvs.isEmpty := by
 cases r <;> rfl
theorem isEmpty_of {xs : List V} {its : List Value} (r : Vals xs its) : (!its.toArray.isEmpty) = !xs.isEmpty := by
 cases r <;> simp
theorem line63 : (sizeLine : Nat) < 2 ^ 63 := by rw [sizeLine_eq]; decide
theorem tru_ok : TruR X (fun x H Q => ∃ k, TruV X.K x H k ∧ Q k H) := by
 intro pins s σ H x v Q I rx h
 obtain ⟨k, e, q⟩ := h
 have hl := line63
 have hs : sizeLine = 16777216 := sizeLine_eq
 cases x with
 | non =>
  cases rx
  have e' : k = false := e
  subst e'
  exact truthy_none ⟨H, I, q⟩
 | bl b =>
  cases rx
  have e' : k = b := e
  subst e'
  exact wpAny_truthy_bool ⟨H, I, q⟩
 | int i =>
  obtain ⟨t, rfl⟩ := rx
  have e' : k = (i != 0) := e
  subst e'
  exact PySem.P.truthy_int ⟨H, I, q⟩
 | str y =>
  obtain ⟨t, rfl⟩ := rx
  obtain ⟨hy, e'⟩ : y.length ≤ sizeLine ∧ k = ((y.length : Int) != 0) := e
  subst e'
  exact PySem.P.truthy_str (by omega) ⟨H, I.tok _, q⟩
 | byt y =>
  obtain ⟨t, rfl⟩ := rx
  obtain ⟨hy, e'⟩ : y.size ≤ sizeLine ∧ k = ((y.size : Int) != 0) := e
  subst e'
  exact PySem.W.truthy_bytes (by omega) ⟨H, I.tok _, q⟩
 | ref p =>
  cases rx
  have e' : (∃ xs, SqL X.K H p xs ∧ k = !xs.isEmpty) ∨ (∃ xs, SqT X.K H p xs ∧ k = !xs.isEmpty) ∨ ∃ kvs, H p = some (.dK kvs) ∧ k = !kvs.isEmpty := e
  rcases e' with ⟨xs, hx, e'⟩ | ⟨xs, hx, e'⟩ | ⟨kvs, hx, e'⟩
  ·subst e'
   obtain ⟨its, r, pl, hz⟩ := I.list hx
   have hlen := r.length
   exact wpAny_truthy_list pl.isList (by simp only [List.size_toArray]; omega) ⟨H, I.tok _, by rw [isEmpty_of r]; exact q⟩
  ·subst e'
   obtain ⟨its, r, pl, hz⟩ := I.tuple hx
   have hlen := r.length
   exact truthy_tuple pl (by simp only [List.size_toArray]; omega) ⟨H, I.tok _, by rw [isEmpty_of r]; exact q⟩
  ·subst e'
   obtain ⟨hz, hS, vs, r, m⟩ : kvs.length ≤ sizeLine ∧ (p == sysModules) = false ∧ ∃ vs, KV kvs vs ∧ s.heap.DictOf (mixKind X.prog X.w) p vs := I.hok p _ hx
   have hlen : kvs.length = vs.length := Paired.length r
   exact wpAny_truthy_dict hS m (by omega) ⟨H, I.tok _, by rw [isEmpty_kv r]; exact q⟩
 | _ => exact (show False from e).elim
theorem pt_truth (ha : PE X a ta) (he : ∀ whole, isTrue a X.env whole = (do let v ← whole; standAt a.pos; holding [v] (truthy v))) :
  PT X a (fun σ H Q => ta σ H fun x H' => ∃ k, TruV X.K x H' k ∧ Q k H') := by
 intro pins s σ H Q I h
 exact isTrue_plain (thn (ha pins s σ H _ I h) fun v s1 ⟨x, H1, I1, r1, q1⟩ => tru_ok pins s1 σ H1 x v Q I1 r1 q1) (he _)
theorem vals1 {x : V} {us : List Value} (r : Vals [x] us) : ∃ u, us = [u] ∧ RelV x u := by
 cases r with
 | cons r1 r2 => cases r2; exact ⟨_, rfl, r1⟩
theorem vals2 {x y : V} {us : List Value} (r : Vals [x, y] us) : ∃ u w', us = [u, w'] ∧ RelV x u ∧ RelV y w' := by
 cases r with
 | cons r1 r2 =>
  cases r2 with
  | cons r3 r4 => cases r4; exact ⟨_, _, rfl, r1, r3⟩
theorem call_max2 (hc : X.calm = true) : CallR X (.builtin "max") (fun xs H Q => ∃ i j, xs = [.int i, .int j] ∧ Q (.int (if j > i then j else i)) H) := by
 intro pins s σ H xs us Q I r h
 obtain ⟨i, j, rfl, q⟩ := h
 obtain ⟨u, w', rfl, ⟨t, rfl⟩, ⟨t', rfl⟩⟩ := vals2 r
 refine max_two_ints (I.ok.hd hc) fun h' tk k => ⟨_, H, I.kept k, ?_, q⟩
 by_cases hj : j > i
 ·rw [if_pos hj, if_pos hj]; exact ⟨_, rfl⟩
 ·rw [if_neg hj, if_neg hj]; exact ⟨_, rfl⟩
end
end L2
namespace L2
open PySem PySem.Spec PyProof.Rows
structure ObjM (h : Heap) (x dx C : Addr) (mA : Str → Option Value) : Prop where
 obj : h.get? x = some (PySem.W.instObj C dx)
 ns : h.Ns1 dx mA
 ne : dx ≠ x
theorem lookIn_ns {h : Heap} {dx : Addr} {mA : Str → Option Value} (n : h.Ns1 dx mA) : ∃ od, h.get? dx = some od ∧ ∀ name, PySem.W.lookIn name od = some (mA name) := by
 obtain ⟨o, es, ep, ho, hd, hk, _, hm⟩ := n
 refine ⟨o, ho, fun name => ?_⟩
 have e := hm name
 unfold nsFind findBy at e
 rw [← Array.find?_toList] at e
 unfold PySem.W.lookIn
 rw [hd]
 dsimp only
 split
 ·rename_i y q
  rw [q] at e
  exact congrArg some e
 ·rename_i q
  rw [q] at e
  have a : es.toList.any (·.refKey) = false := by
   rw [List.any_eq_false]
   intro y hy
   obtain ⟨z, t, hkey⟩ := hk y (Array.mem_toList_iff.mp hy)
   simp [DictEntry.refKey, hkey]
  have a' : ¬ es.toList.any (·.refKey) = true := by rw [a]; exact Bool.false_ne_true
  rw [if_neg a']
  exact congrArg some e
theorem ObjM.look {h : Heap} {x dx C : Addr} {mA : Str → Option Value} (I : ObjM h x dx C mA) : ∃ od, PySem.W.InstAt h x (PySem.W.instObj C dx) C (some od) ∧ ∀ name, PySem.W.lookIn name od = some (mA name) :=
 let ⟨od, ho, hl⟩ := lookIn_ns I.ns
 ⟨od, ⟨I.obj, rfl, rfl, ho⟩, hl⟩
section
variable {prog : Program} {w : World} {A : Around} {E : Value → Shared → Prop} {s : Shared} {K : PySem.W.Frag} {x dx C f : Addr} {mA : Str → Option Value} {name : Str} {v : Value}
theorem get_map {expr : Bool} {Q : Value → Shared → Prop} (X : K.In s.heap) (I : ObjM s.heap x dx C mA) (hg : PySem.W.plainGet K C name = true) (hh : PySem.W.hasDictIn K C = true)
  (ha : PySem.W.findIn K (.ref C) name = some none) (hv : mA name = some v) (hv' : PySem.W.handedIn v = true) (h : Q v { s with toks := s.toks + 1 }) :
  wpAny (model prog w) A (getAttr (.ref x) name expr) Q E s := by
 obtain ⟨od, J, hl⟩ := I.look
 exact PySem.W.get_value X J (PySem.W.plainGet_of hg).1 (PySem.W.findObj_own hh ha rfl (by rw [hl, hv])) hv' h
theorem get_meth {pl : Sem Bool} {Q : Value × List Value → Shared → Prop} (X : K.In s.heap) (I : ObjM s.heap x dx C mA) (hg : PySem.W.plainGet K C name = true)
  (hf : PySem.W.findIn K (.ref C) name = some (some (.ref f))) (ht : PySem.W.isFn K (.ref f) = true) (hv : mA name = none) (h : Q (.ref f, [.ref x]) s) :
  wpAny (model prog w) A (getMethod (.ref x) name pl) Q E s := by
 obtain ⟨od, J, hl⟩ := I.look
 exact PySem.W.method_fn X J (PySem.W.plainGet_of hg).1 (PySem.W.plainGet_of hg).2 hf (beq_iff_eq.mp ht) (by show (PySem.W.lookIn name od).map (·.isSome) = some false; rw [hl, hv]; rfl) h
theorem set_map {ns : List Str} {Q : Unit → Shared → Prop} (X : K.In s.heap) (I : ObjM s.heap x dx C mA)
  (hs : PySem.W.findIn K (.ref C) "__setattr__" = some (some (.builtin "object.__setattr__"))) (hp : PySem.W.plainOver K C = true) (ht : PySem.W.takerIn K C name = some none) (hh : PySem.W.hasDictIn K C = true)
  (hw : PySem.Within mA ns) (hsz : ns.length ≤ sizeLine)
  (h : ∀ h', ObjM h' x dx C (fun y => if y = name then some v else mA y) → Heap.SameBut dx s.heap h' → Q () { s with heap := h', toks := s.toks + 2 }) :
  wpAny (model prog w) A (setAttr (.ref x) name v) Q E s := by
 obtain ⟨od, J, hl⟩ := I.look
 refine PySem.W.set_plain X J hs (PySem.W.osa_open (s := { s with toks := s.toks + 1 }) (r := none) X J hp ht fun b => ?_)
 obtain ⟨cd, hc, hd'⟩ := PySem.W.any_some hh
 have hx : s.heap.get? x = some ⟨.ref C, some dx, .plain, #[]⟩ := I.obj
 refine wpAny_bind (wpAny_pure (wpAny_bind (wpAny_bind (wpAny_loadPart hx (wpAny_bind (PySem.W.Looks.here (s := { s with toks := s.toks + 1 }) (PySem.W.looks_clsIn X hc) ?_))))))
 rw [hd']
 refine wpAny_pure (a := some dx) (wpAny_bind (wpAny_pure (wpAny_bind ?_)))
 refine wpAny_nsSet1 (s := { s with toks := s.toks + 1 }) I.ns fun h' hn2 hs2 => ?_
 obtain ⟨oD, esD, epD, hoD, hdD, hcD⟩ := hn2.count (PySem.Within.cons name v hw)
 refine wpAny_bind (wpAny_lookBehind hoD (by rw [hdD]; exact pastItsLine_dict (Nat.le_trans hcD (by rw [List.length_cons]; omega))) ?_)
 exact wpAny_pure (h _ ⟨(hs2.2 _ (Ne.symm I.ne)).trans I.obj, hn2, I.ne⟩ hs2)
theorem make_map {R : Result → Shared → Prop} {vs : List Value} {kw : List (Str × Value)} (X : K.In s.heap) (hm : PySem.W.makesIn K C = true)
  (hi : PySem.W.findIn K (.ref C) "__init__" = some (some (.ref f))) (hf : PySem.W.typeIn K (.ref f) = some (.type "function"))
  (h : codeAny (model prog w) (A.under (.builtin "type.__call__" ⟨.ref C :: vs, kw⟩)) (.call (.ref f) ⟨.ref (s.heap.objs.size + 1) :: vs, kw⟩) (PySem.W.InitBack (s.heap.objs.size + 1) R)
   { s with heap := (s.heap.push PySem.W.emptyDict).push (PySem.W.instObj C s.heap.objs.size) }) :
  codeAny (model prog w) A (.call (.ref C) ⟨vs, kw⟩) R s := by
 obtain ⟨hh, g, d, t, os⟩ := s
 exact PySem.W.make_core (PySem.W.makes_of X hm) (PySem.W.looks_findIn X hi) (fun self => PySem.W.bind_fn X self hf) (.inl rfl) h
end
def putF (f : Str) (v : V) : List (Str × V) → List (Str × V)
 | [] => [(f, v)]
 | (g, x) :: r => if g = f then (g, v) :: r else (g, x) :: putF f v r
theorem lookup_putF (f g : Str) (v : V) : ∀ fs : List (Str × V), (putF f v fs).lookup g = if g = f then some v else fs.lookup g
 | [] => by
  show List.lookup g [(f, v)] = _
  by_cases h : g = f
  ·have hb : (g == f) = true := beq_iff_eq.mpr h
   simp only [List.lookup, hb, if_pos h]
  ·have hb : (g == f) = false := beq_eq_false_iff_ne.mpr h
   simp only [List.lookup, hb, if_neg h]
 | (k, x) :: r => by
  have ih := lookup_putF f g v r
  rw [show putF f v ((k, x) :: r) = (if k = f then (k, v) :: r else (k, x) :: putF f v r) from rfl]
  by_cases hk : k = f
  ·rw [if_pos hk]
   by_cases h : g = k
   ·have hb : (g == k) = true := beq_iff_eq.mpr h
    simp only [List.lookup, hb, if_pos (h.trans hk)]
   ·have hb : (g == k) = false := beq_eq_false_iff_ne.mpr h
    simp only [List.lookup, hb, if_neg (fun e : g = f => h (e.trans hk.symm))]
  ·rw [if_neg hk]
   by_cases h : g = k
   ·have hb : (g == k) = true := beq_iff_eq.mpr h
    simp only [List.lookup, hb, if_neg (fun e : g = f => hk (h.symm.trans e))]
   ·have hb : (g == k) = false := beq_eq_false_iff_ne.mpr h
    simp only [List.lookup, hb]
    exact ih
theorem keys_putF (f : Str) (v : V) : ∀ fs : List (Str × V), f ∈ (putF f v fs).map (·.1) ∧ ∀ g, g ∈ fs.map (·.1) → g ∈ (putF f v fs).map (·.1)
 | [] => ⟨by simp [putF], fun g h => by simp at h⟩
 | (k, x) :: r => by
  obtain ⟨i1, i2⟩ := keys_putF f v r
  rw [show putF f v ((k, x) :: r) = (if k = f then (k, v) :: r else (k, x) :: putF f v r) from rfl]
  by_cases hk : k = f
  ·rw [if_pos hk]
   subst hk
   exact ⟨by simp, fun g h => by simpa using h⟩
  ·rw [if_neg hk]
   refine ⟨?_, fun g h => ?_⟩
   ·rw [List.map_cons]
    exact List.mem_cons_of_mem _ i1
   ·rw [List.map_cons] at h ⊢
    rcases List.mem_cons.mp h with e | e
    ·exact List.mem_cons.mpr (.inl e)
    ·exact List.mem_cons_of_mem _ (i2 g e)
theorem length_putF (f : Str) (v : V) : ∀ fs : List (Str × V), (putF f v fs).length ≤ fs.length + 1
 | [] => by simp [putF]
 | (k, x) :: r => by
  have ih := length_putF f v r
  rw [show putF f v ((k, x) :: r) = (if k = f then (k, v) :: r else (k, x) :: putF f v r) from rfl]
  by_cases hk : k = f
  ·rw [if_pos hk, List.length_cons, List.length_cons]; omega
  ·rw [if_neg hk, List.length_cons, List.length_cons]; omega
theorem RelO.some_of {v : V} {o : Option Value} (r : RelO (some v) o) : ∃ u, o = some u ∧ RelV v u := by
 cases o with
 | none => exact (show False from r).elim
 | some u => exact ⟨u, rfl, r⟩
theorem RelO.none_of {o : Option Value} (r : RelO none o) : o = none := by
 cases o with
 | none => rfl
 | some u => exact (show False from r).elim
theorem handed_of {v : V} {u : Value} (r : RelV v u) : PySem.W.handedIn u = true := by
 cases v with
 | non => cases (show u = Value.none from r); rfl
 | bl b => cases (show u = Value.bool b from r); rfl
 | int i => obtain ⟨t, e⟩ := (show ∃ t, u = Value.int i t from r); cases e; rfl
 | str x => obtain ⟨t, e⟩ := (show ∃ t, u = Value.str x t from r); cases e; rfl
 | byt b => obtain ⟨t, e⟩ := (show ∃ t, u = Value.bytes b t from r); cases e; rfl
 | flt b => obtain ⟨t, e⟩ := (show ∃ t, u = Value.float b t from r); cases e; rfl
 | ref a => cases (show u = Value.ref a from r); rfl
 | ty n => cases (show u = Value.type n from r); rfl
section
variable {P : Program} {w : World} {H H' : Hp} {h h' : Heap} {a C dx : Addr} {fs fs' : List (Str × V)}
theorem ins_get (hok : HOk P w H h) (e : H a = some (.ins C dx fs)) : ∃ mA, ObjM h a dx C mA ∧ (∀ f, RelO (fs.lookup f) (mA f)) ∧ PySem.Within mA (fs.map (·.1)) ∧ fs.length ≤ 1000 ∧ H dx = some (.own a) := by
 obtain ⟨d, z, ne, ob, mA, n, r, q⟩ := (show ObjOk P w H h a (.ins C dx fs) from hok a _ e)
 exact ⟨mA, ⟨ob, n, ne⟩, r, q, z, d⟩
end
structure Cls (K : PySem.W.Frag) (C : Addr) : Prop where
 pg : PySem.W.plainGet K C Str.empty = true
 hd : PySem.W.hasDictIn K C = true
 po : PySem.W.plainOver K C = true
 sa : PySem.W.findIn K (.ref C) "__setattr__" = some (some (.builtin "object.__setattr__"))
theorem Cls.get {K : PySem.W.Frag} {C : Addr} (c : Cls K C) (f : Str) : PySem.W.plainGet K C f = true := c.pg
def NoAttr (K : PySem.W.Frag) (C : Addr) (f : Str) : Prop := PySem.W.findIn K (.ref C) f = some none
theorem NoAttr.taker {K : PySem.W.Frag} {C : Addr} {f : Str} (n : NoAttr K C f) : PySem.W.takerIn K C f = some none := by
 unfold PySem.W.takerIn
 rw [show PySem.W.findIn K (.ref C) f = some none from n]
 rfl
structure Meth (K : PySem.W.Frag) (C : Addr) (m : Str) (f : Addr) : Prop where
 at_ : PySem.W.findIn K (.ref C) m = some (some (.ref f))
 fn : PySem.W.isFn K (.ref f) = true
 kp : PySem.W.keepIn K (.ref f) = true
section
variable {X : Cx} {pins : List (Addr × Obj)} {σ : St} {H : Hp} {s : Shared} {a C dx : Addr} {fs : List (Str × V)} {f : Str} {v : V} {A : Around} {E : Value → Shared → Prop}
theorem getattr_ok {b : Bool} {Q : Value → Shared → Prop} (I : Inv X pins σ H s) (e : H a = some (.ins C dx fs)) (c : Cls X.K C) (n : NoAttr X.K C f) (l : fs.lookup f = some v)
  (h : ∀ u s', Inv X pins σ H s' → RelV v u → Q u s') : wpAny (model X.prog X.w) A (getAttr (.ref a) f b) Q E s := by
 obtain ⟨mA, O, r, _, _, _⟩ := ins_get I.hok e
 obtain ⟨u, hu, ru⟩ := RelO.some_of (v := v) (o := mA f) (by rw [← l]; exact r f)
 exact get_map I.kIn O (c.get f) c.hd n hu (handed_of ru) (h u _ (I.tok _) ru)
theorem getmeth_ok {m : Str} {g : Addr} {pl : Sem Bool} {Q : Value × List Value → Shared → Prop} (I : Inv X pins σ H s) (e : H a = some (.ins C dx fs)) (c : Cls X.K C) (k : Meth X.K C m g) (l : fs.lookup m = none)
  (h : Q (.ref g, [.ref a]) s) : wpAny (model X.prog X.w) A (getMethod (.ref a) m pl) Q E s := by
 obtain ⟨mA, O, r, _, _, _⟩ := ins_get I.hok e
 have hn : mA m = none := RelO.none_of (by rw [← l]; exact r m)
 exact get_meth I.kIn O (c.get m) k.at_ k.fn hn h
theorem setattr_ok {y : V} {u : Value} {Q : Unit → Shared → Prop} (I : Inv X pins σ H s) (e : H a = some (.ins C dx fs)) (c : Cls X.K C) (n : NoAttr X.K C f) (hl : fs.length < 1000) (ry : RelV y u)
  (h : ∀ s', Inv X pins σ (upd H a (.ins C dx (putF f y fs))) s' → Q () s') : wpAny (model X.prog X.w) A (setAttr (.ref a) f u) Q E s := by
 obtain ⟨mA, O, r, wi, _, ho⟩ := ins_get I.hok e
 have hz : (fs.map (·.1)).length ≤ sizeLine := by rw [List.length_map, sizeLine_eq]; omega
 refine set_map I.kIn O c.sa c.po n.taker c.hd wi hz fun h' O' sb => h _ ?_
 have hd : ∃ o, h'.get? dx = some o := let ⟨o, _, _, e', _⟩ := O'.ns; ⟨o, e'⟩
 refine I.write (x := a) (e := dx) (by rw [e]; exact True.intro) (.inr ho) (fun b q hb z => (sb.2 b hb).trans z) hd ?_
 refine ⟨by rw [upd_ne O.ne]; exact ho, ?_, O.ne, O'.obj, _, O'.ns, fun g => ?_, fun g hg => ?_⟩
 ·have := length_putF f y fs; omega
 ·show RelO ((putF f y fs).lookup g) (if g = f then some u else mA g)
  rw [lookup_putF]
  by_cases q : g = f
  ·rw [if_pos q, if_pos q]; exact ry
  ·rw [if_neg q, if_neg q]; exact r g
 ·by_cases q : g = f
  ·rw [q]; exact (keys_putF f y fs).1
  ·refine (keys_putF f y fs).2 g (wi g fun z => hg ?_)
   show (if g = f then some u else mA g) = none
   rw [if_neg q]; exact z
theorem Inv.made (I : Inv X pins σ H s) : Inv X pins σ (upd (upd H s.heap.objs.size (.own (s.heap.objs.size + 1))) (s.heap.objs.size + 1) (.ins C s.heap.objs.size []))
  { s with heap := (s.heap.push PySem.W.emptyDict).push (PySem.W.instObj C s.heap.objs.size) } := by
 have e1 : (s.heap.push PySem.W.emptyDict).get? s.heap.objs.size = some PySem.W.emptyDict := Heap.get?_push_size s.heap rfl
 have e2 : ((s.heap.push PySem.W.emptyDict).push (PySem.W.instObj C s.heap.objs.size)).get? (s.heap.objs.size + 1) = some (PySem.W.instObj C s.heap.objs.size) := by
  have := Heap.get?_push_size (s.heap.push PySem.W.emptyDict) (o := PySem.W.instObj C s.heap.objs.size) rfl
  rwa [Heap.size_push] at this
 have e3 : (s.heap.push PySem.W.emptyDict).Ns s.heap.objs.size (fun _ => none) := ⟨PySem.W.emptyDict, #[], _, e1, rfl, (fun e he => absurd he (by simp)), fun _ => rfl⟩
 have I1 := I.laid (a := s.heap.objs.size) (o := .own (s.heap.objs.size + 1)) (h' := s.heap.push PySem.W.emptyDict) (t' := s.toks) (fun b u q => Heap.get?_push_of_some _ q) (Nat.le_refl _) ⟨_, e1⟩
 refine I1.laid (a := s.heap.objs.size + 1) (o := .ins C s.heap.objs.size []) (t' := s.toks) (fun b u q => Heap.get?_push_of_some _ q) (Nat.le_of_eq (Heap.size_push _ _)) ?_
 have ne : s.heap.objs.size ≠ s.heap.objs.size + 1 := Nat.ne_of_lt (Nat.lt_succ_self _)
 refine ⟨by rw [upd_ne ne, upd_same], Nat.zero_le _, ne, e2, fun _ => none, (Heap.Ns1.of_empty e3).at fun o q => Heap.get?_push_of_some _ q, fun _ => True.intro, fun y hy => absurd rfl hy⟩
theorem attr_of {prog : Program} {w : World} {env : Env} {e : Expr} {f : Str} {pos : Pos} {s : Shared} {Q : Value → Shared → Prop} (hb : attributeBase e f env (eval e env) = eval e env)
  (h : wpAny (model prog w) A (eval e env) (fun o s₁ => wpAny (model prog w) A (getAttr o f true) Q E s₁) E s) : wpAny (model prog w) A (eval (.Attribute e f pos) env) Q E s :=
 Attribute_any_ h (by rw [arm_eval_Attribute, hb])
end
def tFld (K : PySem.W.Frag) (ta : TE) (f : Str) : TE := fun σ H Q => ta σ H fun x H1 => ∃ a C dx fs v, x = .ref a ∧ H1 a = some (.ins C dx fs) ∧ Cls K C ∧ NoAttr K C f ∧ fs.lookup f = some v ∧ Q v H1
def sFld (K : PySem.W.Frag) (ta tv : TE) (f : Str) : TS := fun D σ H => tv σ H fun y H1 => ta σ H1 fun x H2 => ∃ a C dx fs, x = .ref a ∧ H2 a = some (.ins C dx fs) ∧ Cls K C ∧ NoAttr K C f ∧ fs.length < 1000 ∧
 D.nx σ (upd H2 a (.ins C dx (putF f y fs)))
def InOp (X : Cx) (op : Operator) (rd : V → V → Hp → VK → Prop) : Prop :=
 ∀ (pins : List (Addr × Obj)) (s : Shared) (σ : St) (H : Hp) (x y : V) (u v : Value) (Q : VK), Inv X pins σ H s → RelV x u → RelV y v → rd x y H Q → wpAny (model X.prog X.w) X.A (inplaceOp op u v) (EP X pins σ Q) X.xe s
def sFldAug (K : PySem.W.Frag) (ta tv : TE) (rd : V → V → Hp → VK → Prop) (f : Str) : TS := fun D σ H => ta σ H fun x H1 => ∃ a C dx fs v, x = .ref a ∧ H1 a = some (.ins C dx fs) ∧ Cls K C ∧ NoAttr K C f ∧ fs.lookup f = some v ∧
 tv σ H1 fun y H2 => rd v y H2 fun z H3 => ∃ dx' fs', H3 a = some (.ins C dx' fs') ∧ fs'.length < 1000 ∧ D.nx σ (upd H3 a (.ins C dx' (putF f z fs')))
section
variable {X : Cx} {o e value : Expr} {f : Str} {pos pos' tpos : Pos} {ta tv : TE}
theorem pe_fld (he : PE X e ta) (hb : attributeBase e f X.env (eval e X.env) = eval e X.env) : PE X (.Attribute e f pos) (tFld X.K ta f) := by
 intro pins s σ H Q I h
 refine attr_of hb (thn (he pins s σ H _ I h) fun u s1 ⟨x, H1, I1, rx, a, C, dx, fs, v, ex, ea, c, n, l, q⟩ => ?_)
 subst ex
 obtain rfl : u = Value.ref a := rx
 exact getattr_ok I1 ea c n l fun u' s2 I2 ru => ⟨v, H1, I2, ru, q⟩
theorem ps_fld (ha : PE X o ta) (hv : PE X value tv) (hs : swapsWith value (some (.Attribute o f pos')) pos.line X.env = pure false) : PS X (.Assign [.Attribute o f pos'] value pos) (sFld X.K ta tv f) := by
 intro pins s σ H D I h
 refine plainObj_wpAny_Assign_Attribute (thn (hv pins s σ H _ I h) fun u s1 ⟨y, H1, I1, ry, q⟩ => thn (ha pins s1 σ H1 _ I1 q) fun ov s2 ⟨x, H2, I2, rx, a, C, dx, fs, ex, ea, c, n, l, q2⟩ => ?_) hs
 subst ex
 obtain rfl : ov = Value.ref a := rx
 exact setattr_ok I2 ea c n l ry fun s3 I3 => ⟨σ, _, I3, q2⟩
theorem ps_fldaug {op : Operator} {rd : V → V → Hp → VK → Prop} (ha : PE X o ta) (hv : PE X value tv) (hop : InOp X op rd) : PS X (.AugAssign (.Attribute o f tpos) op value pos) (sFldAug X.K ta tv rd f) := by
 intro pins s σ H D I h
 refine wpAny_AugAssign_AttributeAny (thn (ha pins s σ H _ I h) fun ov s1 ⟨x, H1, I1, rx, a, C, dx, fs, v, ex, ea, c, n, l, q⟩ => ?_)
 subst ex
 obtain rfl : ov = Value.ref a := rx
 refine getattr_ok I1 ea c n l fun u s2 I2 ru => thn (hv pins s2 σ H1 _ I2 q) fun w3 s3 ⟨y, H2, I3, ry, q3⟩ => thn (hop pins s3 σ H2 v y u w3 _ I3 ru ry q3) fun w4 s4 ⟨z, H3, I4, rz, dx', fs', ea', l', q4⟩ => ?_
 exact setattr_ok I4 ea' c n l' rz fun s5 I5 => ⟨σ, _, I5, q4⟩
def rAdd : V → V → Hp → VK → Prop := fun x y H Q => ∃ i j, x = .int i ∧ y = .int j ∧ Q (.int (i + j)) H
theorem in_add : InOp X .Add rAdd := by
 rintro pins s σ H x y u v Q I rx ry ⟨i, j, rfl, rfl, q⟩
 obtain ⟨t, rfl⟩ := (show ∃ t, u = Value.int i t from rx)
 obtain ⟨t', rfl⟩ := (show ∃ t', v = Value.int j t' from ry)
 exact PyProof.Rows.iadd_int ⟨.int (i + j), H, I.tok _, ⟨_, rfl⟩, q⟩
theorem methcall_of {pl : Sem Bool} {m : Str} {apos : Pos} {args : List Expr} {pins : List (Addr × Obj)} {s : Shared} {σ : St} {H : Hp} {Q : Value → Shared → Prop} {te : TE} (he : PE X e te) (I : Inv X pins σ H s)
  (h : te σ H fun x H1 => ∃ a C dx fs g, x = .ref a ∧ H1 a = some (.ins C dx fs) ∧ Cls X.K C ∧ Meth X.K C m g ∧ fs.lookup m = none ∧
   ∀ s1, Inv X pins σ H1 s1 → wpAny (model X.prog X.w) X.A (callWith pos (.ref g) [.ref a] (backTo pos (starEach args X.env)) (backToKw pos (keywordEach [] X.env))) Q X.xe s1)
  (ht : eval (.Call (.Attribute e m apos) args [] pos) X.env = (do
   let ov ← eval e X.env
   standAt apos.atName
   let (f, first) ← holding [ov] (getMethod ov m pl)
   callWith pos f first (backTo pos (starEach args X.env)) (backToKw pos (keywordEach [] X.env)))) :
  wpAny (model X.prog X.w) X.A (eval (.Call (.Attribute e m apos) args [] pos) X.env) Q X.xe s := by
 refine PySem.W.methodCall_KW (pl := pl) (thn (he pins s σ H _ I h) fun u s1 ⟨x, H1, I1, rx, a, C, dx, fs, g, ex, ea, c, k, l, q⟩ => ?_) ht
 subst ex
 obtain rfl : u = Value.ref a := rx
 exact getmeth_ok I1 ea c k l (q s1 I1)
end
section
variable {X : Cx} {pins : List (Addr × Obj)} {σ : St} {H : Hp} {s : Shared} {A : Around} {E : Value → Shared → Prop} {Q : Value → Shared → Prop} {c : Value} {b : Bool}
end
end L2
namespace L2
open PySem PySem.Spec PyProof.Rows
structure Room (k : Nat) (A : Around) : Prop where
 hd : A.handled = none
 dp : A.depth + 3 * k + 5 < recursionLimit
 un : A.units + 16 * k + 200 < cLine
theorem Room.mono {j k : Nat} {A : Around} (r : Room k A) (h : j ≤ k) : Room j A := ⟨r.hd, by have := r.dp; omega, by have := r.un; omega⟩
theorem Room.deeper {k : Nat} {A : Around} (r : Room (k + 1) A) (env : Env) : Room k (A.deeper env) :=
 ⟨r.hd, by have := r.dp; show A.depth + 1 + 3 * k + 5 < _; omega, by have := r.un; show A.units + 3 + 16 * k + 200 < _; omega⟩
theorem make_depth {A : Around} {C : Addr} {us : List Value} {kw : List (Str × Value)} : (A.under (.builtin "type.__call__" ⟨.ref C :: us, kw⟩)).depth = A.depth + 1 := by
 first | rfl | simp [Around.under, Code.weight, Code.isCreation, Code.isGuard, Code.isCaller, Code.frames, Code.isFrame, guardIds]
theorem make_units {A : Around} {C : Addr} {us : List Value} {kw : List (Str × Value)} : (A.under (.builtin "type.__call__" ⟨.ref C :: us, kw⟩)).units = A.units + 1 := by
 first | rfl | simp [Around.under, Code.cUnits, Code.frames, Code.isFrame]
theorem Room.make {k : Nat} {A : Around} (r : Room (k + 1) A) (C : Addr) (us : List Value) (kw : List (Str × Value)) : Room k (A.under (.builtin "type.__call__" ⟨.ref C :: us, kw⟩)) :=
 ⟨r.hd, by have := r.dp; rw [make_depth]; omega, by have := r.un; rw [make_units]; omega⟩
theorem Room.depth {k : Nat} {A : Around} (r : Room k A) : A.depth < recursionLimit := by have := r.dp; omega
def tNil : TA := fun _ H Q => Q [] H
def tCons (ta : TE) (tr : TA) : TA := fun σ H Q => ta σ H fun x H1 => tr σ H1 fun xs H2 => Q (x :: xs) H2
section
variable {X : Cx} {e : Expr} {es : List Expr} {te : TE} {t : TA} {pos : Pos}
theorem pa_nil : PA X [] tNil := fun _ _ _ _ H Q I h => Calls.spliced_nil ⟨[], H, I, .nil, h⟩
theorem pa_cons (ha : PE X e te) (hr : PA X es t) (hs : starEach (e :: es) X.env = (false, eval e X.env) :: starEach es X.env := by rfl) : PA X (e :: es) (tCons te t) := by
 intro pos pins s σ H Q I h
 rw [hs]
 show wpAny _ _ (spliced ((false, eval e X.env) :: backTo pos (starEach es X.env))) _ _ s
 refine Calls.spliced_cons (thn (ha pins s σ H _ I h) fun u s1 ⟨x, H1, I1, r1, q1⟩ => ?_)
 exact thn (hr pos pins s1 σ H1 _ I1 q1) fun us s2 ⟨xs, H2, I2, r2, q2⟩ => ⟨x :: xs, H2, I2, .cons r1 r2, q2⟩
def tTup (t : TA) : TE := fun σ H Q => t σ H fun xs H1 => xs.length ≤ sizeLine ∧ ∀ p, H1 p = none → Q (.ref p) (upd H1 p (.tup xs))
def tLst (t : TA) : TE := fun σ H Q => t σ H fun xs H1 => xs.length ≤ sizeLine ∧ ∀ p, H1 p = none → Q (.ref p) (upd H1 p (.lst xs))
theorem pe_tup {x1} (h : PA X es t) : PE X (.Tuple es x1 pos) (tTup t) := by
 intro pins s σ H Q I hq
 refine wpAny_Tuple_spliced (thn (h pos pins s σ H _ I hq) fun us s1 ⟨xs, H1, I1, r, z, q⟩ => ⟨by rw [← r.length]; exact z, ?_⟩)
 have hf : H1 s1.heap.objs.size = none := I1.hok.fresh (Nat.le_refl _)
 refine ⟨.ref s1.heap.objs.size, upd H1 s1.heap.objs.size (.tup xs), I1.laid (t' := s1.toks) (fun b u e => Heap.get?_push_of_some _ e) (Nat.le_refl _) ?_, rfl, q _ hf⟩
 exact ⟨z, us, r, ⟨_, Heap.get?_push_size _ rfl, rfl, _, rfl⟩⟩
theorem pe_lst (h : PA X es t) : PE X (.List es pos) (tLst t) := by
 intro pins s σ H Q I hq
 refine wpAny_List_spliced (thn (h pos pins s σ H _ I hq) fun us s1 ⟨xs, H1, I1, r, z, q⟩ => ⟨by rw [← r.length]; exact z, ?_⟩)
 have hf : H1 s1.heap.objs.size = none := I1.hok.fresh (Nat.le_refl _)
 refine ⟨.ref s1.heap.objs.size, upd H1 s1.heap.objs.size (.lst xs), I1.laid (t' := s1.toks) (fun b u e => Heap.get?_push_of_some _ e) (Nat.le_refl _) ?_, rfl, q _ hf⟩
 exact ⟨z, us, 0, r, Heap.get?_push_size _ rfl⟩
end
abbrev Sp := List V → Hp → VK → XK → Prop
abbrev CXT := List Env → Hp → Shared → XK → Value → Shared → Prop
structure Env0 (P : Program) (w : World) (K : PySem.W.Frag) (mg : Str → Option Value) (base : Heap) (A : Around) (outer : List Env) (s : Shared) (H : Hp) : Prop where
 frames : A.frames = some outer
 mod : Mod K mg base
 bs : ∀ b o, base.get? b = some o → s.heap.get? b = some o ∧ H b = none
 bsz : base.objs.size ≤ s.heap.objs.size
 funs : s.heap.FunFrames base outer
 frf : ∀ b ∈ frs outer, H b = none
 hok : HOk P w H s.heap
 bare : AllBare s.gens
def CE (outer : List Env) (P : Program) (w : World) (H : Hp) (s : Shared) (Q : VK) (u : Value) (s' : Shared) : Prop :=
 ∃ v H', s'.os = s.os ∧ AllBare s'.gens ∧ Un (frs outer) [] H H' s.heap s'.heap ∧ HOk P w H' s'.heap ∧ RelV v u ∧ Q v H'
def CR (CX : CXT) (outer : List Env) (P : Program) (w : World) (H : Hp) (s : Shared) (Q : VK) (E : XK) (r : Result) (s' : Shared) : Prop :=
 match r with
 | .ok (.ret u) => CE outer P w H s Q u s'
 | .ok _ => False
 | .error e => CX outer H s E e s'
structure FnOk (P : Program) (w : World) (K : PySem.W.Frag) (mg : Str → Option Value) (base : Heap) (CX : CXT) (k : Nat) (f : Addr) (fd : FuncData) (ps : List Str) (sp : Sp) : Prop where
 len : ∀ vs H Q E, sp vs H Q E → vs.length = ps.length
 run : ∀ (A : Around) (outer : List Env) (s : Shared) (H : Hp) (args : Args) (us : List Value) (vs : List V) (Q : VK) (E : XK), Room k A → Env0 P w K mg base A outer s H → BindsTo s fd args (ps.zip us) → Vals vs us → sp vs H Q E →
  codeAny (model P w) A (.call (.ref f) args) (CR CX outer P w H s Q E) s
theorem Env0.make {P : Program} {w : World} {K : PySem.W.Frag} {mg : Str → Option Value} {base : Heap} {A : Around} {outer : List Env} {s : Shared} {H : Hp} (e : Env0 P w K mg base A outer s H) (C : Addr) (us : List Value) (kw : List (Str × Value)) :
  Env0 P w K mg base (A.under (.builtin "type.__call__" ⟨.ref C :: us, kw⟩)) outer s H := ⟨by first | exact e.frames | (simpa [Around.under, Code.envs, Code.isFrame, pushEnvs] using e.frames), e.mod, e.bs, e.bsz, e.funs, e.frf, e.hok, e.bare⟩
section
variable {X : Cx} {pins : List (Addr × Obj)} {σ : St} {H : Hp} {s s' : Shared}
theorem Inv.env0 (I : Inv X pins σ H s) : Env0 X.prog X.w X.K X.mg X.base X.A X.stack s H :=
 ⟨I.ok.frames, I.ok.mod, I.bs, Nat.le_trans I.ok.bsz I.sz, I.stack, I.stkFree, I.hok, I.bare⟩
theorem Inv.after {Q : VK} {u : Value} (I : Inv X pins σ H s) (h : CE X.stack X.prog X.w H s Q u s') : EP X pins σ Q u s' := by
 obtain ⟨v, H', os, bare, un, hok, r, q⟩ := h
 obtain ⟨hh, g, d, t, os'⟩ := s'
 obtain rfl : os' = s.os := os
 exact ⟨v, H', I.call (h' := hh) (g' := g) (d' := d) (t' := t) (ch := []) un hok bare (fun b z => absurd z (by simp)), r, q⟩
end
def tCall (sp : Sp) (dvs : List V) (E : XK) (t : TA) : TE := fun σ H Q => t σ H fun vs H1 => sp (vs ++ dvs) H1 Q E
def tMeth (C : Addr) (m : Str) (sp : Sp) (dvs : List V) (E : XK) (ta : TE) (t : TA) : TE := fun σ H Q => ta σ H fun x H1 => ∃ a dx fs, x = .ref a ∧ H1 a = some (.ins C dx fs) ∧ fs.lookup m = none ∧
 t σ H1 fun vs H2 => sp (x :: (vs ++ dvs)) H2 Q E
def tMake (C : Addr) (sp : Sp) (dvs : List V) (E : XK) (t : TA) : TE := fun σ H Q => t σ H fun vs H1 => ∀ x dx, H1 x = none → H1 dx = none → dx ≠ x →
 sp (.ref x :: (vs ++ dvs)) (upd (upd H1 dx (.own x)) x (.ins C dx [])) (fun v H2 => v = .non ∧ Q (.ref x) H2) E
def Binds (K : PySem.W.Frag) (fd : FuncData) (ps : List Str) (ds : List Value) : Prop :=
 ∀ (s : Shared) (us : List Value), K.In s.heap → (us ++ ds).length = ps.length → BindsTo s fd ⟨us, []⟩ (ps.zip (us ++ ds))
theorem Binds.all {K : PySem.W.Frag} {fd : FuncData} {ps : List Str} (h : ∀ us : List Value, us.length = ps.length → bindArgs fd ⟨us, []⟩ = pure (ps.zip us)) : Binds K fd ps [] := fun s us _ hl => by
 rw [List.append_nil] at hl ⊢
 exact .of_eq (h us hl)
def Passes (CX : CXT) (X : Cx) (E : XK) : Prop := ∀ (pins : List (Addr × Obj)) (σ : St) (H : Hp) (s : Shared) (e : Value) (s' : Shared), Inv X pins σ H s → CX X.stack H s E e s' → X.xe e s'
section
variable {X : Cx} {CX : CXT} {k : Nat} {f C : Addr} {fd : FuncData} {ps : List Str} {sp : Sp} {dvs : List V} {ds : List Value} {E : XK} {x m : Str} {p pos apos : Pos} {e o : Expr} {es : List Expr} {ta : TE} {t : TA}
theorem run_fn {pins : List (Addr × Obj)} {σ : St} {H : Hp} {s : Shared} {Q : VK} {us : List Value} {vs : List V} (F : FnOk X.prog X.w X.K X.mg X.base CX k f fd ps sp) (hr : Room k X.A) (hb : Binds X.K fd ps ds) (hd : Vals dvs ds) (hx : Passes CX X E)
  (I : Inv X pins σ H s) (r : Vals vs us) (h : sp (vs ++ dvs) H Q E) : wpAny (model X.prog X.w) X.A (call (.ref f) us) (EP X pins σ Q) X.xe s := by
 have r2 : Vals (vs ++ dvs) (us ++ ds) := r.append hd
 have hl : (us ++ ds).length = ps.length := by rw [← r2.length]; exact F.len _ _ _ _ h
 refine wpAny_call (codeAny_mono (F.run X.A X.stack s H ⟨us, []⟩ (us ++ ds) (vs ++ dvs) Q E hr I.env0 (hb s us I.kIn hl) r2 h) fun r s' hq => ?_)
 cases r with
 | error e => exact hx pins σ H s e s' I hq
 | ok fl =>
  cases fl with
  | ret u => exact I.after hq
  | next => exact False.elim hq
  | brk => exact False.elim hq
  | cont => exact False.elim hq
theorem pe_call (F : FnOk X.prog X.w X.K X.mg X.base CX k f fd ps sp) (hr : Room k X.A) (hg : Gl X x) (hm : X.mg x = some (.ref f)) (hk : PySem.W.keepIn X.K (.ref f) = true) (hb : Binds X.K fd ps ds) (hd : Vals dvs ds) (hx : Passes CX X E)
  (ha : PA X (e :: es) t) (hdb : (x == ("__debug__" : Str)) = false := by decide) (he : starEach (e :: es) X.env = (false, eval e X.env) :: starEach es X.env := by rfl) (hpl : (backTo pos (starEach es X.env)).any (·.1) = false := by rfl) :
  PE X (.Call (.Name x p) (e :: es) [] pos) (tCall sp dvs E t) := by
 intro pins s σ H Q I h
 refine wpAny_Call_Name_kw (ld_glob I hg hm ?_ hdb)
 refine PySem.W.callWith_K (h₀ := X.base) I.ok.mod.kin hk (thn (ha pos pins s σ H _ I h) fun us s1 ⟨vs, H1, I1, r, q⟩ => ⟨I1.kIn, ?_⟩) he hpl
 exact run_fn F hr hb hd hx I1 r q
theorem pe_meth {pl : Sem Bool} (he : PE X o ta) (c : Cls X.K C) (hm : Meth X.K C m f) (F : FnOk X.prog X.w X.K X.mg X.base CX k f fd ps sp) (hr : Room k X.A) (hb : Binds X.K fd ps ds) (hd : Vals dvs ds) (hx : Passes CX X E) (ha : PA X (e :: es) t)
  (hst : starEach (e :: es) X.env = (false, eval e X.env) :: starEach es X.env := by rfl) (hpl : (backTo pos (starEach es X.env)).any (·.1) = false := by rfl)
  (ht : eval (.Call (.Attribute o m apos) (e :: es) [] pos) X.env = (do
   let ov ← eval o X.env
   standAt apos.atName
   let (f, first) ← holding [ov] (getMethod ov m pl)
   callWith pos f first (backTo pos (starEach (e :: es) X.env)) (backToKw pos (keywordEach [] X.env))) := by rfl) :
  PE X (.Call (.Attribute o m apos) (e :: es) [] pos) (tMeth C m sp dvs E ta t) := by
 intro pins s σ H Q I h
 refine PySem.W.methodCall_KW (pl := pl) (thn (he pins s σ H _ I h) fun u s1 ⟨x, H1, I1, rx, a, dx, fs, ex, ea, l, q⟩ => ?_) ht
 subst ex
 obtain rfl : u = Value.ref a := rx
 refine getmeth_ok I1 ea c hm l ?_
 refine PySem.W.callWith_K (first := [.ref a]) (h₀ := X.base) I.ok.mod.kin hm.kp (thn (ha pos pins s1 σ H1 _ I1 q) fun us s2 ⟨vs, H2, I2, r, q2⟩ => ⟨I2.kIn, ?_⟩) hst hpl
 exact run_fn (us := .ref a :: us) (vs := .ref a :: vs) F hr hb hd hx I2 (.cons rfl r) q2
theorem pe_meth0 {pl : Sem Bool} (he : PE X o ta) (c : Cls X.K C) (hm : Meth X.K C m f) (F : FnOk X.prog X.w X.K X.mg X.base CX k f fd ps sp) (hr : Room k X.A) (hb : Binds X.K fd ps ds) (hd : Vals dvs ds) (hx : Passes CX X E)
  (ht : eval (.Call (.Attribute o m apos) [] [] pos) X.env = (do
   let ov ← eval o X.env
   standAt apos.atName
   let (f, first) ← holding [ov] (getMethod ov m pl)
   callWith pos f first (backTo pos (starEach [] X.env)) (backToKw pos (keywordEach [] X.env))) := by rfl) :
  PE X (.Call (.Attribute o m apos) [] [] pos) (tMeth C m sp dvs E ta tNil) := by
 intro pins s σ H Q I h
 refine PySem.W.methodCall_KW (pl := pl) (thn (he pins s σ H _ I h) fun u s1 ⟨x, H1, I1, rx, a, dx, fs, ex, ea, l, q⟩ => ?_) ht
 subst ex
 obtain rfl : u = Value.ref a := rx
 refine getmeth_ok I1 ea c hm l ?_
 exact PySem.W.callWith_K0 (first := [.ref a]) I1.kIn hm.kp (run_fn (us := [.ref a]) (vs := [.ref a]) F hr hb hd hx I1 (.cons rfl .nil) q)
structure Mk (K : PySem.W.Frag) (C f : Addr) : Prop where
 makes : PySem.W.makesIn K C = true
 init : PySem.W.findIn K (.ref C) "__init__" = some (some (.ref f))
 fn : PySem.W.isFn K (.ref f) = true
 kp : PySem.W.keepIn K (.ref C) = true
theorem run_make {pins : List (Addr × Obj)} {σ : St} {H : Hp} {s : Shared} {Q : VK} {us : List Value} {vs : List V} (M : Mk X.K C f) (F : FnOk X.prog X.w X.K X.mg X.base CX k f fd ps sp) (hr : Room (k + 1) X.A) (hb : Binds X.K fd ps ds) (hd : Vals dvs ds)
  (hx : Passes CX X E) (I : Inv X pins σ H s) (r : Vals vs us)
  (h : ∀ x dx, H x = none → H dx = none → dx ≠ x → sp (.ref x :: (vs ++ dvs)) (upd (upd H dx (.own x)) x (.ins C dx [])) (fun v H2 => v = .non ∧ Q (.ref x) H2) E) :
  wpAny (model X.prog X.w) X.A (call (.ref C) us) (EP X pins σ Q) X.xe s := by
 have hq := h (s.heap.objs.size + 1) s.heap.objs.size (I.hok.fresh (Nat.le_succ _)) (I.hok.fresh (Nat.le_refl _)) (Nat.ne_of_lt (Nat.lt_succ_self _))
 have I2 := Inv.made (C := C) I
 have r2 : Vals (V.ref (s.heap.objs.size + 1) :: (vs ++ dvs)) (Value.ref (s.heap.objs.size + 1) :: (us ++ ds)) := .cons rfl (r.append hd)
 have hl : (Value.ref (s.heap.objs.size + 1) :: us ++ ds).length = ps.length := by
  have e := r2.length
  rw [F.len _ _ _ _ hq] at e
  exact e.symm
 refine wpAny_call (make_map (f := f) I.kIn M.makes M.init (beq_iff_eq.mp M.fn) (codeAny_mono (F.run _ X.stack _ _ ⟨Value.ref (s.heap.objs.size + 1) :: us, []⟩ (Value.ref (s.heap.objs.size + 1) :: (us ++ ds)) _ _ E (hr.make C us [])
  (I2.env0.make C us []) (hb _ (Value.ref (s.heap.objs.size + 1) :: us) I2.kIn hl) r2 hq) fun r s' hq' => ?_))
 cases r with
 | error e => exact hx pins σ _ _ e s' I2 hq'
 | ok fl =>
  cases fl with
  | ret u =>
   obtain ⟨v, H', I3, rv, ev, q3⟩ := I2.after hq'
   subst ev
   exact ⟨rv, ⟨V.ref (s.heap.objs.size + 1), H', I3, rfl, q3⟩⟩
  | next => exact False.elim hq'
  | brk => exact False.elim hq'
  | cont => exact False.elim hq'
theorem pe_make (M : Mk X.K C f) (F : FnOk X.prog X.w X.K X.mg X.base CX k f fd ps sp) (hr : Room (k + 1) X.A) (hg : Gl X x) (hm : X.mg x = some (.ref C)) (hb : Binds X.K fd ps ds) (hd : Vals dvs ds) (hx : Passes CX X E)
  (ha : PA X (e :: es) t) (hdb : (x == ("__debug__" : Str)) = false := by decide) (he : starEach (e :: es) X.env = (false, eval e X.env) :: starEach es X.env := by rfl) (hpl : (backTo pos (starEach es X.env)).any (·.1) = false := by rfl) :
  PE X (.Call (.Name x p) (e :: es) [] pos) (tMake C sp dvs E t) := by
 intro pins s σ H Q I h
 refine wpAny_Call_Name_kw (ld_glob I hg hm ?_ hdb)
 refine PySem.W.callWith_K (h₀ := X.base) I.ok.mod.kin M.kp (thn (ha pos pins s σ H _ I h) fun us s1 ⟨vs, H1, I1, r, q⟩ => ⟨I1.kIn, ?_⟩) he hpl
 exact run_make M F hr hb hd hx I1 r q
theorem pe_make0 (M : Mk X.K C f) (F : FnOk X.prog X.w X.K X.mg X.base CX k f fd ps sp) (hr : Room (k + 1) X.A) (hg : Gl X x) (hm : X.mg x = some (.ref C)) (hb : Binds X.K fd ps ds) (hd : Vals dvs ds) (hx : Passes CX X E)
  (hdb : (x == ("__debug__" : Str)) = false := by decide) : PE X (.Call (.Name x p) [] [] pos) (tMake C sp dvs E tNil) := by
 intro pins s σ H Q I h
 refine wpAny_Call_Name_kw (ld_glob I hg hm ?_ hdb)
 exact PySem.W.callWith_K0 I.kIn M.kp (run_make (us := []) M F hr hb hd hx I .nil h)
end
def PK (X : Cx) (kws : List Keyword) (t : TA) : Prop :=
 ∀ (pos : Pos) (pins : List (Addr × Obj)) (s : Shared) (σ : St) (H : Hp) (Q : List V → Hp → Prop), Inv X pins σ H s → t σ H Q → wpAny (model X.prog X.w) X.A (evalAll ((backToKw pos (keywordEach kws X.env)).map (·.2))) (AP X pins σ Q) X.xe s
section
variable {X : Cx} {CX : CXT} {k : Nat} {f C : Addr} {fd : FuncData} {ps ks : List Str} {sp : Sp} {E : XK} {x m : Str} {p pos apos kpos : Pos} {e o : Expr} {es : List Expr} {kws : List Keyword} {te ta : TE} {t tk : TA} {nm : Option Str}
theorem pk_nil : PK X [] tNil := fun _ _ _ _ H Q I h => wpAny_evalAll_nil ⟨[], H, I, .nil, h⟩
theorem pk_cons (ha : PE X e te) (hr : PK X kws t) : PK X (⟨nm, e, kpos⟩ :: kws) (tCons te t) := by
 intro pos pins s σ H Q I h
 show wpAny _ _ (evalAll ((do let v ← eval e X.env; standAt pos; pure v) :: (backToKw pos (keywordEach kws X.env)).map (·.2))) _ _ s
 refine wpAny_evalAll_cons (wpAny_bind (thn (ha pins s σ H _ I h) fun u s1 ⟨x, H1, I1, r1, q1⟩ => wpAny_bind (wpAny_standAt (wpAny_pure ?_))))
 exact thn (hr pos pins s1 σ H1 _ I1 q1) fun us s2 ⟨xs, H2, I2, r2, q2⟩ => ⟨x :: xs, H2, I2, .cons r1 r2, q2⟩
variable {g : List Value → List Value → List Value} {gV : List V → List V → List V}
end
structure FnScope (N P : List Str) (sc : Scope) : Prop where
 kind : sc.kind = .function
 co : sc.isCoroutine = false
 gen : sc.isGenerator = false
 nd : N.Nodup
 pre : N.take P.length = P
 par : ∀ x ∈ P, sc.names.lookup x = some .local ∨ sc.names.lookup x = some .cell
 nofree : ∀ y ∈ sc.names, y.2 ≠ .free
theorem bindL_out {kindOf : Str → Option NameKind} {x : Str} : ∀ {binds : List (Str × Value)} {m : Str → Option Value}, (∀ v, (x, v) ∉ binds) → bindL kindOf binds m x = m x
 | [], _, _ => rfl
 | (n, v) :: r, m, h => by
  unfold bindL
  rw [bindL_out fun w hw => h w (List.mem_cons_of_mem _ hw)]
  split
  ·have : x ≠ n := by rintro rfl; exact h v List.mem_cons_self
   simp [this]
  ·rfl
theorem bindC_out {kindOf : Str → Option NameKind} {x : Str} : ∀ {binds : List (Str × Value)} {m : Str → Option Value}, (∀ v, (x, v) ∉ binds) → bindC kindOf binds m x = m x
 | [], _, _ => rfl
 | (n, v) :: r, m, h => by
  unfold bindC
  rw [bindC_out fun w hw => h w (List.mem_cons_of_mem _ hw)]
  split
  ·rfl
  ·have : x ≠ n := by rintro rfl; exact h v List.mem_cons_self
   simp [this]
theorem bindL_get {kindOf : Str → Option NameKind} {x : Str} {v : Value} : ∀ {P : List Str} {vs : List Value} {i : Nat} {m : Str → Option Value}, P.Nodup → P[i]? = some x → vs[i]? = some v → kindOf x = some .local →
  bindL kindOf (P.zip vs) m x = some v
 | [], _, _, _, _, h, _, _ => by simp at h
 | _ :: _, [], _, _, _, _, h, _ => by simp at h
 | p :: P, w :: vs, 0, m, nd, h1, h2, hk => by
  simp at h1 h2; subst h1; subst h2
  show bindL kindOf ((p, w) :: P.zip vs) m p = _
  unfold bindL
  rw [bindL_out fun v hv => (List.nodup_cons.mp nd).1 (List.of_mem_zip hv).1, if_pos hk]
  simp
 | p :: P, w :: vs, i + 1, m, nd, h1, h2, hk => by
  show bindL kindOf ((p, w) :: P.zip vs) m x = _
  unfold bindL
  exact bindL_get (i := i) (List.nodup_cons.mp nd).2 (by simpa using h1) (by simpa using h2) hk
theorem bindC_get {kindOf : Str → Option NameKind} {x : Str} {v : Value} : ∀ {P : List Str} {vs : List Value} {i : Nat} {m : Str → Option Value}, P.Nodup → P[i]? = some x → vs[i]? = some v → kindOf x ≠ some .local →
  bindC kindOf (P.zip vs) m x = some v
 | [], _, _, _, _, h, _, _ => by simp at h
 | _ :: _, [], _, _, _, _, h, _ => by simp at h
 | p :: P, w :: vs, 0, m, nd, h1, h2, hk => by
  simp at h1 h2; subst h1; subst h2
  show bindC kindOf ((p, w) :: P.zip vs) m p = _
  unfold bindC
  rw [bindC_out fun v hv => (List.nodup_cons.mp nd).1 (List.of_mem_zip hv).1, if_neg hk]
  simp
 | p :: P, w :: vs, i + 1, m, nd, h1, h2, hk => by
  show bindC kindOf ((p, w) :: P.zip vs) m x = _
  unfold bindC
  exact bindC_get (i := i) (List.nodup_cons.mp nd).2 (by simpa using h1) (by simpa using h2) hk
def start (N : List Str) (vs : List V) : St := vs.map some ++ List.replicate (N.length - vs.length) none
def cxOf (CX : CXT) (P : Program) (w : World) (K : PySem.W.Frag) (mg : Str → Option Value) (base : Heap) (N : List Str) (qual : Str) (scope : Scope) (f : Addr) (cd : Value) (A : Around) (outer : List Env) (s : Shared) (H : Hp) (E : XK) : Cx where
 prog := P
 w := w
 K := K
 mg := mg
 base := base
 A := A.deeper (envOfC qual scope s.heap.objs.size f cd)
 N := N
 s_0 := s
 H_0 := H
 env := envOfC qual scope s.heap.objs.size f cd
 outer := outer
 stack := envOfC qual scope s.heap.objs.size f cd :: outer
 ex := []
 calm := true
 fn := fun _ => true
 pn := []
 xe := fun e s' => wpAny (model P w) (A.deeper (envOfC qual scope s.heap.objs.size f cd)) (leaving (envOfC qual scope s.heap.objs.size f cd) e) (fun _ s'' => CX outer H s E e s'') (fun e' s'' => CX outer H s E e' s'') s'
theorem cell_has {sc : Scope} {n : Nat} {x : Str} (h : sc.names.lookup x = some .cell) : ∃ c, (cellsFrom n sc.names []).lookup x = some c := by
 have q := PySem.W.cellsFrom_some sc.names n [] (.inl h)
 exact Option.isSome_iff_exists.mp q
theorem inv_start {CX : CXT} {P : Program} {w : World} {K : PySem.W.Frag} {mg : Str → Option Value} {base : Heap} {N ps : List Str} {qual : Str} {scope : Scope} {f : Addr} {cd : Value} {A : Around} {outer : List Env} {s s1 : Shared} {H : Hp} {E : XK} {us : List Value} {vs : List V}
  (S : FnScope N ps scope) (hd : A.handled = none) (e0 : Env0 P w K mg base A outer s H) (hl : vs.length = ps.length) (r : Vals vs us)
  (x : InCallC s s.heap.objs.size (bindL (envOfC qual scope s.heap.objs.size f cd).kindOf (ps.zip us) fun _ => none) (cellsFrom (s.heap.objs.size + 1) scope.names []) (bindC (envOfC qual scope s.heap.objs.size f cd).kindOf (ps.zip us) fun _ => none) s1) :
  Inv (cxOf CX P w K mg base N qual scope f cd A outer s H E) [] (start N vs) H s1 := by
 have hpl : ps.length ≤ N.length := by have := congrArg List.length S.pre; rw [List.length_take] at this; omega
 obtain ⟨h1, tk, rfl, hk⟩ := x.done
 have noA : ∀ b : Addr, b ∉ (cxOf CX P w K mg base N qual scope f cd A outer s H E).ex := fun b z => absurd (show b ∈ ([] : List Addr) from z) (by simp)
 refine ⟨⟨e0.mod, S.kind, rfl, rfl, Nat.le_refl _, fun y z c h1 h2 => ?_, fun y hy => ?_, fun y c _ h => ?_, fun _ => hd, Around.frames_deeper e0.frames, .inr ⟨rfl, rfl⟩, fun b z => absurd z (noA b), e0.bs, e0.bsz, fun b _ _ => noA b, fun b z => absurd z (noA b), e0.funs, e0.frf⟩,
  rfl, e0.bare, Un.kept hk, ⟨_, x.toInCall.ns, fun i y v h1 h2 h3 => ?_⟩, fun y c h => ⟨_, x.cell y c h⟩, e0.hok.fresh (Nat.le_refl _), fun y c h => ?_, fun p hp => absurd (show p ∈ ([] : List (Addr × Obj)) from hp) (by simp), e0.hok.kept hk, ?_⟩
 ·exact name_of_addr x.apart (PySem.mem_of_lookup h1) (PySem.mem_of_lookup h2)
 ·have hy : scope.names.lookup y = some .cell ∨ scope.names.lookup y = some .free := hy
  rcases hy with hy | hy
  ·exact cell_has hy
  ·exact absurd rfl (S.nofree _ (PySem.mem_of_lookup hy))
 ·exact Nat.le_of_lt (x.above y c (PySem.mem_of_lookup h))
 ·have hi : i < vs.length := by
   unfold start at h2
   by_cases hi : i < vs.length
   ·exact hi
   ·rw [List.getElem?_append_right (by simpa using hi)] at h2
    rw [List.getElem?_replicate] at h2
    split at h2 <;> cases h2
  have ha : vs[i]? = some v := by
   unfold start at h2
   rw [List.getElem?_append_left (by simpa using hi), List.getElem?_map] at h2
   cases e : vs[i]? with
   | none => rw [e] at h2; cases h2
   | some a => rw [e] at h2; cases h2; rfl
  obtain ⟨u, hu, rv⟩ := r.get ha
  have hp : ps[i]? = some y := by
   rw [← S.pre, List.getElem?_take_of_lt (by omega)]; exact h1
  have ndP : ps.Nodup := by rw [← S.pre]; exact S.nd.sublist (List.take_sublist _ _)
  refine ⟨u, rv, ?_⟩
  rcases S.par y (List.mem_of_getElem? hp) with k | k
  ·exact .inl ⟨k, bindL_get ndP hp hu k⟩
  ·obtain ⟨c, e⟩ := cell_has (n := s.heap.objs.size + 1) k
   refine .inr ⟨.inl k, c, e, ?_⟩
   have q := x.cell y c e
   rw [bindC_get ndP hp hu (by show scope.names.lookup y ≠ _; rw [k]; decide)] at q
   exact q
 ·exact e0.hok.fresh (Nat.le_of_lt (x.above y c (PySem.mem_of_lookup h)))
 ·unfold start
  show _ = N.length
  rw [List.length_append, List.length_map, List.length_replicate]
  omega
theorem fn_of {CX : CXT} {P : Program} {w : World} {K : PySem.W.Frag} {mg : Str → Option Value} {base : Heap} {k : Nat} {f : Addr} {name qual : Str} {params : Arguments} {body : List Stmt} {scope : Scope} {dV kV doc pm cdv ct oc : Value} {an od : Option Addr}
  {osl : Array (Option Value)} {N ps : List Str} {sp : Sp} (lk : K.lookup f = some ⟨oc, od, .func (PySem.W.fnOf name qual params body scope dV kV doc pm an cdv ct), osl⟩) (hcd : PySem.W.codeIn K cdv qual = true) (S : FnScope N ps scope)
  (len : ∀ vs H Q E, sp vs H Q E → vs.length = ps.length)
  (hbody : ∀ (A : Around) (outer : List Env) (s : Shared) (H : Hp) (vs : List V) (Q : VK) (E : XK), Room k (A.deeper (envOfC qual scope s.heap.objs.size f cdv)) → sp vs H Q E →
   ∃ t, PSs (cxOf CX P w K mg base N qual scope f cdv A outer s H E) body t ∧ t { nx := fun _ H' => Q .non H', rt := Q } (start N vs) H) :
  FnOk P w K mg base CX (k + 1) f (PySem.W.fnOf name qual params body scope dV kV doc pm an cdv ct) ps sp := by
 refine ⟨len, fun A outer s H args us vs Q E hr e0 hb r hsp => ?_⟩
 have hl := len _ _ _ _ hsp
 have KX : K.In s.heap := e0.mod.kin.keeps fun b o e => (e0.bs b o e).1
 have lim : s.heap.NoLimit := e0.mod.nolimit.keeps fun b o e => (e0.bs b o e).1
 have hkind : ∀ y ∈ ps.zip us, scope.names.lookup y.1 = some .local ∨ (scope.names.lookup y.1 = some .cell ∧ ((cellsFrom (s.heap.objs.size + 1) scope.names []).lookup y.1).isSome = true) := fun ⟨n, v⟩ hy => by
  rcases S.par n (List.of_mem_zip hy).1 with q | q
  ·exact .inl q
  ·exact .inr ⟨q, PySem.W.cellsFrom_some _ _ _ (.inl q)⟩
 refine codeAny_call_function hr.depth (KX _ _ lk) rfl S.co S.gen rfl (PySem.W.codeRec_of KX hcd) (hb _ _ _ _ ?_)
 refine wpAny_newFunctionEnv_cells S.kind hkind fun env he s1 x => ?_
 subst he
 refine ⟨lim.keeps x.toInCall.keep, codeAny_func ?_⟩
 obtain ⟨t, ht, hq⟩ := hbody A outer s H vs Q E (hr.deeper _) hsp
 have I : Inv (cxOf CX P w K mg base N qual scope f cdv A outer s H E) [] (start N vs) H s1 := inv_start S hr.hd e0 hl r x
 refine wpAny_mono (ht [] s1 (start N vs) H _ I hq) (fun fl s' hs => ?_) fun e s' hs => hs
 have fin : ∀ {σ' : St} {H' : Hp} {v : V} {u : Value}, Inv (cxOf CX P w K mg base N qual scope f cdv A outer s H E) [] σ' H' s' → RelV v u → Q v H' → CE outer P w H s Q u s' :=
  fun {σ' H' v u} J rv q => ⟨v, H', J.os, J.bare, J.base, J.hok, rv, q⟩
 cases fl with
 | ret u =>
  obtain ⟨v, σ', H', J, rv, q⟩ := hs
  exact fin J rv q
 | next =>
  obtain ⟨σ', H', J, q⟩ := hs
  exact fin (v := V.non) (u := Value.none) J rfl q
 | brk =>
  obtain ⟨_, _, _, q⟩ := hs
  exact False.elim q
 | cont =>
  obtain ⟨_, _, _, q⟩ := hs
  exact False.elim q
end L2
namespace L2
open PySem PySem.Spec PyProof.Rows
section
variable {X : Cx} {x : Str} {p pos : Pos} {e : Expr} {es : List Expr} {t : TA} {id T : String} {r : List V → Hp → VK → Prop}
def tCB (r : List V → Hp → VK → Prop) (t : TA) : TE := fun σ H Q => t σ H fun vs H1 => r vs H1 Q
theorem pe_callB (hc : CallR X (.builtin id) r) (hg : Gl X x) (hm : X.mg x = none) (hv : bootBuiltins x = some (.builtin id)) (ha : PA X (e :: es) t) (hn : x ≠ "__name__" := by decide) (hdb : (x == ("__debug__" : Str)) = false := by decide)
  (he : starEach (e :: es) X.env = (false, eval e X.env) :: starEach es X.env := by rfl) (hpl : (backTo pos (starEach es X.env)).any (·.1) = false := by rfl) : PE X (.Call (.Name x p) (e :: es) [] pos) (tCB r t) := by
 intro pins s σ H Q I h
 refine wpAny_Call_Name_kw (ld_blt I hg hm hv ?_ hn hdb)
 exact PyProof.Rows.callWith_builtin1 (thn (ha pos pins s σ H _ I h) fun us s1 ⟨vs, H1, I1, r1, q1⟩ => hc pins s1 σ H1 vs us Q I1 r1 q1) he hpl
end
end L2
namespace HT
open PySem PyProof.Rows
section
open PySem.SeqAt
open PySem.AutoSeq1 (wpAny_loadPart')
open PySem.MeetsSeq PySem.MeetsSeq2 PySem.MeetsSeq3
end
section
variable {prog : Program} {w : World} {A : Around} {E : Value → Shared → Prop} {s : Shared}
def sIx (n d : Nat) : Option Int → Nat
 | none => d
 | some v => if v < 0 then (v + (n : Int)).toNat else min v.toNat n
theorem sIx_none (n d : Nat) : sIx n d none = d := rfl
theorem sIx_nat (n d k : Nat) : sIx n d (some (k : Int)) = min k n := by
 show (if (k : Int) < 0 then ((k : Int) + (n : Int)).toNat else min (k : Int).toNat n) = min k n
 rw [if_neg (by omega), Int.toNat_natCast]
end
end HT
namespace L2
open PySem PySem.Spec PyProof.Rows
abbrev TO := St → Hp → (Option Int → Hp → Prop) → Prop
def PO (X : Cx) (e : Option Expr) (t : TO) : Prop :=
 ∀ (pins : List (Addr × Obj)) (s : Shared) (σ : St) (H : Hp) (Q : Option Int → Hp → Prop), Inv X pins σ H s → t σ H Q →
  wpAny (model X.prog X.w) X.A (evalPart e X.env) (fun u s' => ∃ o H', Inv X pins σ H' s' ∧ IsPart u o ∧ Q o H') X.xe s
def tNoPart : TO := fun _ H Q => Q none H
def tPart (t : TE) : TO := fun σ H Q => t σ H fun x H1 => ∃ i, x = .int i ∧ Q (some i) H1
section
variable {X : Cx} {e : Expr} {te : TE} {lo hi : Option Expr} {tl th : TO} {pos p2 : Pos}
theorem po_none : PO X none tNoPart := by
 intro pins s σ H Q I h
 rw [evalPart_none]
 exact wpAny_pure ⟨none, H, I, .none, h⟩
theorem po_some (h : PE X e te) : PO X (some e) (tPart te) := by
 intro pins s σ H Q I hw
 rw [evalPart_some]
 refine thn (h pins s σ H _ I hw) fun u s1 ⟨x, H1, I1, r1, q1⟩ => ?_
 obtain ⟨i, rfl, q⟩ := q1
 obtain ⟨t, rfl⟩ := r1
 exact ⟨some i, H1, I1, .int i t, q⟩
def SlR (X : Cx) (r : V → Option Int → Option Int → Hp → VK → Prop) : Prop :=
 ∀ (pins : List (Addr × Obj)) (s : Shared) (σ : St) (H : Hp) (x : V) (v vl vu : Value) (lo hi : Option Int) (sl : Addr) (Q : VK), Inv X pins σ H s → RelV x v → s.heap.IsSliceOf sl vl vu .none → IsPart vl lo → IsPart vu hi → r x lo hi H Q →
  ∃ T id, typeLookup (.type T) "__getitem__" = pure (some (.builtin id)) ∧ s.TypeIs v T ∧ wpAny (model X.prog X.w) X.A (getItem v (.ref sl)) (EP X pins σ Q) X.xe s
def tSl (r : V → Option Int → Option Int → Hp → VK → Prop) (te : TE) (tl th : TO) : TE := fun σ H Q => te σ H fun x H1 => tl σ H1 fun l H2 => th σ H2 fun u H3 => r x l u H3 Q
theorem pe_slice {r : V → Option Int → Option Int → Hp → VK → Prop} (hr : SlR X r) (he : PE X e te) (hl : PO X lo tl) (hu : PO X hi th) : PE X (.Subscript e (.Slice lo hi none p2) pos) (tSl r te tl th) := by
 intro pins s σ H Q I h
 refine Subscript_ (thn (he pins s σ H _ I h) fun v s1 ⟨x, H1, I1, r1, q1⟩ => ?_)
 refine wpAny_Slice (thn (hl pins s1 σ H1 _ I1 q1) fun vl s2 ⟨l, H2, I2, pl, q2⟩ => thn (hu pins s2 σ H2 _ I2 q2) fun vu s3 ⟨u, H3, I3, pu, q3⟩ => ?_)
 rw [evalPart_none]
 refine wpAny_pure ?_
 have I4 : Inv X pins σ H3 { s3 with heap := s3.heap.push { cls := .type "slice", data := .fields #[vl, vu, .none] } } := I3.kept (t' := s3.toks) fun b ob q => Heap.get?_push_of_some _ q
 obtain ⟨T, id, hT, ht, hg⟩ := hr pins { s3 with heap := s3.heap.push { cls := .type "slice", data := .fields #[vl, vu, .none] } } σ H3 x v vl vu l u s3.heap.objs.size Q I4 r1 (Heap.IsSliceOf.new ..) pl pu q3
 show wpAny (model X.prog X.w) X.A (subscriptTail e (.Slice lo hi none p2) v (.ref s3.heap.objs.size)) (EP X pins σ Q) X.xe { s3 with heap := s3.heap.push { cls := .type "slice", data := .fields #[vl, vu, .none] } }
 exact tail_any (ops := [.ref s3.heap.objs.size, v]) ht hT hg (by with_unfolding_all rfl)
def cutV (xs : List V) (lo hi : Option Int) : List V := (xs.drop (HT.sIx xs.length 0 lo)).take (HT.sIx xs.length xs.length hi - HT.sIx xs.length 0 lo)
theorem cutV_length (xs : List V) (lo hi : Option Int) : (cutV xs lo hi).length ≤ xs.length := by
 unfold cutV
 rw [List.length_take, List.length_drop]
 omega
end
end L2
namespace L2
open PySem PySem.Spec PyProof.Rows
def ixN (n : Nat) (i : Int) : Option Nat := if 0 ≤ i then (if i < n then some i.toNat else none) else if -(n : Int) ≤ i then some (i + n).toNat else none
def atI {α : Type} (xs : List α) (i : Int) : Option α := (ixN xs.length i).bind fun j => xs[j]?
theorem ixN_seq {n : Nat} {i : Int} {j : Nat} (h : ixN n i = some j) : seqIndex? i n = some j ∧ j < n ∧ -(n : Int) ≤ i ∧ i < n := by
 unfold ixN at h
 by_cases h0 : 0 ≤ i
 ·rw [if_pos h0] at h
  by_cases h1 : i < n
  ·rw [if_pos h1] at h
   have e : i.toNat = j := Option.some.inj h
   exact ⟨by rw [seqIndex_of h0 h1, e], by omega, by omega, h1⟩
  ·rw [if_neg h1] at h; cases h
 ·rw [if_neg h0] at h
  by_cases h1 : -(n : Int) ≤ i
  ·rw [if_pos h1] at h
   have e : (i + n).toNat = j := Option.some.inj h
   exact ⟨by rw [seqIndex_neg (by omega) h1, e], by omega, h1, by omega⟩
  ·rw [if_neg h1] at h; cases h
theorem atI_get {α : Type} {xs : List α} {i : Int} {v : α} (h : atI xs i = some v) : ∃ j, seqIndex? i xs.length = some j ∧ xs[j]? = some v ∧ j < xs.length ∧ -(xs.length : Int) ≤ i ∧ i < xs.length := by
 unfold atI at h
 cases e : ixN xs.length i with
 | none => rw [e] at h; cases h
 | some j =>
  rw [e] at h
  obtain ⟨h1, h2, h3, h4⟩ := ixN_seq e
  exact ⟨j, h1, h, h2, h3, h4⟩
theorem atI_nat {α : Type} {xs : List α} {j : Nat} {v : α} (h : xs[j]? = some v) : atI xs (j : Int) = some v := by
 have hj : j < xs.length := (List.getElem?_eq_some_iff.mp h).1
 have e : ixN xs.length (j : Int) = some j := by
  unfold ixN
  rw [if_pos (by omega), if_pos (by omega)]; simp
 unfold atI; rw [e]; exact h
theorem atI_last {α : Type} (xs : List α) (v : α) : atI (xs ++ [v]) (-1) = some v := by
 have hl : (xs ++ [v]).length = xs.length + 1 := by simp
 have e : ixN (xs ++ [v]).length (-1) = some xs.length := by
  unfold ixN
  rw [hl, if_neg (by decide), if_pos (by omega)]
  congr 1
  omega
 unfold atI
 rw [e]
 show (xs ++ [v])[xs.length]? = some v
 simp
def PlainIx (b : Expr) : Prop := ∀ o i, subscripted b false o i = operate [o, i] (getItem o i)
def IxR (X : Cx) (r : R2) : Prop :=
 ∀ (value slice : Expr) (pins : List (Addr × Obj)) (s : Shared) (σ : St) (H : Hp) (x y : V) (v u : Value) (Q : VK), Inv X pins σ H s → RelV x v → RelV y u → r x y H Q →
  subscripted slice false v u = operate [v, u] (getItem v u) → wpAny (model X.prog X.w) X.A (subscriptTail value slice v u) (EP X pins σ Q) X.xe s
def MtR (X : Cx) (id : String) (r : V → List V → Hp → VK → Prop) : Prop :=
 ∀ (pins : List (Addr × Obj)) (s : Shared) (σ : St) (H : Hp) (x : V) (xs : List V) (v : Value) (us : List Value) (Q : VK), Inv X pins σ H s → RelV x v → Vals xs us → r x xs H Q →
  wpAny (model X.prog X.w) X.A (call (.builtin id) (v :: us)) (EP X pins σ Q) X.xe s
section
variable {X : Cx} {a b : Expr} {ta tb : TE} {pos : Pos}
theorem pe_ix {r : R2} (hr : IxR X r) (ha : PE X a ta) (hb : PE X b tb) (hs : PlainIx b) : PE X (.Subscript a b pos) (tOp r ta tb) := by
 intro pins s σ H Q I h
 exact Subscript_ (binT ha hb I h fun v u s2 x y H2 I2 rx ry q => hr a b pins s2 σ H2 x y v u Q I2 rx ry q (hs _ _))
def rIxL (K : PySem.W.Frag) : R2 := fun x y H Q => ∃ p xs i v, x = .ref p ∧ y = .int i ∧ SqL K H p xs ∧ atI xs i = some v ∧ Q v H
def rIxT (K : PySem.W.Frag) : R2 := fun x y H Q => ∃ p xs i v, x = .ref p ∧ y = .int i ∧ SqT K H p xs ∧ atI xs i = some v ∧ Q v H
theorem ix_list : IxR X (rIxL X.K) := by
 intro value slice pins s σ H x y v u Q I rx ry h hs
 obtain ⟨p, xs, i, z, rfl, rfl, hq, he, q⟩ := h
 cases rx
 obtain ⟨t, rfl⟩ := ry
 obtain ⟨its, r, pl, hz⟩ := I.list hq
 obtain ⟨j, h1, h2, h3, h4, h5⟩ := atI_get he
 obtain ⟨w, ew, rw'⟩ := r.get h2
 have hl := r.length
 have hn := line63
 have fin : EP X pins σ Q w s := ⟨z, H, I, rw', q⟩
 by_cases h0 : 0 ≤ i
 ·have hj : i.toNat = j := by
   rw [seqIndex_of h0 h5] at h1
   exact Option.some.inj h1
  exact item_listR pl.isList h0 (by omega) (by rw [hj]; simpa using ew) fin hs
 ·have hj : (i + (its.toArray.size : Int)).toNat = j := by
   rw [seqIndex_neg (by omega) h4] at h1
   rw [List.size_toArray, ← hl]
   exact Option.some.inj h1
  exact subscriptTail_builtinR (x := w) pl.isList.typeIs slot_list_getitem.lookup
   (wpAny_getItem_list_neg (Q := fun r s' => r = w ∧ EP X pins σ Q r s') pl.isList (by omega) (by rw [List.size_toArray] <;> omega) (by omega) (by rw [hj]; simpa using ew) ⟨rfl, fin⟩) hs
theorem ix_tup : IxR X (rIxT X.K) := by
 intro value slice pins s σ H x y v u Q I rx ry h hs
 obtain ⟨p, xs, i, z, rfl, rfl, hq, he, q⟩ := h
 cases rx
 obtain ⟨t, rfl⟩ := ry
 obtain ⟨its, r, pl, hz⟩ := I.tuple hq
 obtain ⟨j, h1, h2, h3, h4, h5⟩ := atI_get he
 obtain ⟨w, ew, rw'⟩ := r.get h2
 have hl := r.length
 have hn := line63
 have fin : EP X pins σ Q w s := ⟨z, H, I, rw', q⟩
 exact subscriptTail_builtinR (x := w) pl.typeIs slot_tuple_getitem.lookup
  (getItem_tuple (j := j) (Q := fun r s' => r = w ∧ EP X pins σ Q r s') pl (by omega) (by omega) (by rw [List.size_toArray, ← hl]; exact h1) (by simpa using ew) ⟨rfl, fin⟩) hs
theorem mapSeq_set (its : List Value) (n j : Nat) (u : Value) : Obj.mapSeq (·.setIfInBounds j u) { cls := .type "list", data := .seq its.toArray n } = { cls := .type "list", data := .seq (its.set j u).toArray n } := by
 simp [Obj.mapSeq]
theorem Inv.lst {pins : List (Addr × Obj)} {σ : St} {H : Hp} {s : Shared} {p : Addr} {xs : List V} (I : Inv X pins σ H s) (h : H p = some (.lst xs)) :
  ∃ (its : List Value) (n : Nat), Vals xs its ∧ s.heap.get? p = some { cls := .type "list", data := .seq its.toArray n } ∧ xs.length ≤ sizeLine := by
 obtain ⟨z, its, n, r, e⟩ := I.hok p _ h
 exact ⟨its, n, r, e, z⟩
theorem Inv.lstUpd {pins : List (Addr × Obj)} {σ : St} {H : Hp} {s : Shared} {p : Addr} {xs ys : List V} {its its' : List Value} {n n' : Nat} {f : Obj → Obj} (I : Inv X pins σ H s) (h : H p = some (.lst xs))
  (ho : s.heap.get? p = some { cls := .type "list", data := .seq its.toArray n }) (hf : f { cls := .type "list", data := .seq its.toArray n } = { cls := .type "list", data := .seq its'.toArray n' }) (r : Vals ys its') (hz : ys.length ≤ sizeLine) (t : Nat) :
  Inv X pins σ (upd H p (.lst ys)) { s with heap := s.heap.update p f, toks := t } := by
 have e : (s.heap.update p f).get? p = some { cls := .type "list", data := .seq its'.toArray n' } := by
  rw [Heap.get?_update_self f ho (by rw [hf] <;> rfl), hf]
 refine I.write (x := p) (e := p) (by rw [h]; trivial) (.inl rfl) (fun b u hb q => (Heap.get?_update_other _ _ (Ne.symm hb)).trans q) ⟨_, e⟩ ?_
 exact ⟨hz, its', n', r, e⟩
def rSetL : V → V → V → Hp → (Hp → Prop) → Prop := fun o i v H Q => ∃ p xs k j, o = .ref p ∧ i = .int k ∧ H p = some (.lst xs) ∧ ixN xs.length k = some j ∧ Q (upd H p (.lst (xs.set j v)))
theorem set_list : PSet X rSetL := by
 intro pins s σ H o i v ov iv u Q I ro ri rv h
 obtain ⟨p, xs, k, j, rfl, rfl, hp, hj, q⟩ := h
 cases ro
 obtain ⟨t, rfl⟩ := ri
 obtain ⟨its, n, r, ho, hz⟩ := I.lst hp
 obtain ⟨h1, h2, h3, h4⟩ := ixN_seq hj
 have hl := r.length
 have hn := line63
 have I' : Inv X pins σ (upd H p (.lst (xs.set j v))) { s with heap := s.heap.update p (Obj.mapSeq (·.setIfInBounds j u)) } :=
  I.lstUpd hp ho (mapSeq_set its n j u) (r.set rv j) (by rw [List.length_set]; exact hz) s.toks
 by_cases h0 : 0 ≤ k
 ·have hk : k.toNat = j := by
   rw [seqIndex_of h0 h4] at h1
   exact Option.some.inj h1
  exact PySem.W.ki_setAt ho h0 (by omega) (by rw [List.size_toArray, ← hl]; exact h4) (by rw [hk]; exact ⟨_, I', q⟩)
 ·have hk : (k + (its.toArray.size : Int)).toNat = j := by
   rw [seqIndex_neg (by omega) h3] at h1
   rw [List.size_toArray, ← hl]
   exact Option.some.inj h1
  exact PySem.W.ki_setBack ho (by omega) (by rw [List.size_toArray, ← hl]; exact h3) (by omega) (by rw [hk]; exact ⟨_, I', q⟩)
theorem slice_bounds (lo hi : Option Int) (n : Nat) : (sliceBounds lo hi none n).1 = ((HT.sIx n 0 lo : Nat) : Int) ∧ (sliceBounds lo hi none n).2.1 = ((HT.sIx n n hi : Nat) : Int) ∧ (sliceBounds lo hi none n).2.2 = 1 := by
 refine ⟨?_, ?_, rfl⟩
 ·cases lo with
  | none => simp [sliceBounds, HT.sIx]
  | some i =>
   simp only [sliceBounds, HT.sIx, Option.getD_none, show (1 : Int) > 0 by decide, if_true]
   by_cases h : i < 0
   ·simp only [h, if_true] <;> omega
   ·simp only [h, if_false] <;> omega
 ·cases hi with
  | none => simp [sliceBounds, HT.sIx]
  | some i =>
   simp only [sliceBounds, HT.sIx, Option.getD_none, show (1 : Int) > 0 by decide, if_true]
   by_cases h : i < 0
   ·simp only [h, if_true] <;> omega
   ·simp only [h, if_false] <;> omega
theorem slicePick_cut (its : List Value) (lo hi : Option Int) : slicePick its.toArray lo hi none = ((its.drop (HT.sIx its.length 0 lo)).take (HT.sIx its.length its.length hi - HT.sIx its.length 0 lo)).toArray := by
 obtain ⟨h1, h2, h3⟩ := slice_bounds lo hi its.toArray.size
 unfold slicePick
 rw [h1, h2, h3]
 simp only [sliceRange_one, pick_run, List.size_toArray] <;> rfl
def rSlL (K : PySem.W.Frag) : V → Option Int → Option Int → Hp → VK → Prop := fun x lo hi H Q => ∃ a xs, x = .ref a ∧ SqL K H a xs ∧ ∀ p, H p = none → Q (.ref p) (upd H p (.lst (cutV xs lo hi)))
theorem sl_list : SlR X (rSlL X.K) := by
 intro pins s σ H x v vl vu lo hi sl Q I rx hs pl pu h
 obtain ⟨a, xs, rfl, hx, q⟩ := h
 cases rx
 obtain ⟨its, r, ht, hz⟩ := I.list hx
 have hlen := r.length
 refine ⟨"list", _, slot_list_getitem.lookup, ht.isList.typeIs, ?_⟩
 refine wpAny_getItem_list_slice ht.isList hs pl pu .none (by simp) ?_ (by rw [List.size_toArray] <;> omega)
 rw [slicePick_cut, ← hlen]
 refine ⟨.ref s.heap.objs.size, _, I.laid (t' := s.toks) (o := .lst (cutV xs lo hi)) (fun b ob q => Heap.get?_push_of_some _ q) (Nat.le_refl _) ?_, rfl, q _ (I.hok.fresh (Nat.le_refl _))⟩
 exact ⟨Nat.le_trans (cutV_length xs lo hi) hz, _, 0, (r.drop (HT.sIx xs.length 0 lo)).take (HT.sIx xs.length xs.length hi - HT.sIx xs.length 0 lo), Heap.get?_push_size _ rfl⟩
def flatV : V → Bool
 | .non => true
 | .bl _ => true
 | .int _ => true
 | .str _ => true
 | _ => false
def eqV : V → V → Bool
 | .non, .non => true
 | .bl a, .bl b => a == b
 | .bl a, .int b => (if a then 1 else 0) == b
 | .int a, .bl b => a == (if b then 1 else 0)
 | .int a, .int b => a == b
 | .str a, .str b => a == b
 | _, _ => false
theorem eqAt_V {A : Around} {s : Shared} {y x : V} {u v : Value} (ry : RelV y u) (rx : RelV x v) (fy : flatV y = true) (fx : flatV x = true) : SeqAt.EqAt A s u v (eqV y x) := by
 cases y with
 | non =>
  cases ry
  cases x with
  | non => cases rx; exact SeqAt.EqAt.same _
  | bl b => cases rx; exact SeqAt.EqAt.none_bool b
  | int b => obtain ⟨t, rfl⟩ := rx; exact SeqAt.EqAt.none_int b t
  | str b => obtain ⟨t, rfl⟩ := rx; exact SeqAt.EqAt.none_str b t
  | _ => exact absurd (show false = true from fx) Bool.false_ne_true
 | bl a =>
  cases ry
  cases x with
  | non => cases rx; exact SeqAt.EqAt.bool_none a
  | bl b => cases rx; exact SeqAt.EqAt.bool_bool a b
  | int b => obtain ⟨t, rfl⟩ := rx; exact SeqAt.EqAt.bool_int a b t
  | str b => obtain ⟨t, rfl⟩ := rx; exact SeqAt.EqAt.bool_str a b t
  | _ => exact absurd (show false = true from fx) Bool.false_ne_true
 | int a =>
  obtain ⟨t', rfl⟩ := ry
  cases x with
  | non => cases rx; exact SeqAt.EqAt.int_none a t'
  | bl b => cases rx; exact SeqAt.EqAt.int_bool a t' b
  | int b => obtain ⟨t, rfl⟩ := rx; exact SeqAt.EqAt.int_int a t' b t
  | str b => obtain ⟨t, rfl⟩ := rx; exact SeqAt.EqAt.int_str a t' b t
  | _ => exact absurd (show false = true from fx) Bool.false_ne_true
 | str a =>
  obtain ⟨t', rfl⟩ := ry
  cases x with
  | non => cases rx; exact SeqAt.EqAt.str_none a t'
  | bl b => cases rx; exact SeqAt.EqAt.str_bool a t' b
  | int b => obtain ⟨t, rfl⟩ := rx; exact SeqAt.EqAt.str_int a t' b t
  | str b => obtain ⟨t, rfl⟩ := rx; exact SeqAt.EqAt.str_str a t' b t
  | _ => exact absurd (show false = true from fx) Bool.false_ne_true
 | _ => exact absurd (show false = true from fy) Bool.false_ne_true
def eqU (x : V) (u : Value) : Bool := match u with
 | .none => eqV .non x
 | .bool b => eqV (.bl b) x
 | .int i _ => eqV (.int i) x
 | .str z _ => eqV (.str z) x
 | _ => false
theorem eqU_of {x y : V} {u : Value} (r : RelV y u) (f : flatV y = true) : eqU x u = eqV y x := by
 cases y with
 | non => cases r; rfl
 | bl b => cases r; rfl
 | int i => obtain ⟨t, rfl⟩ := r; rfl
 | str z => obtain ⟨t, rfl⟩ := r; rfl
 | _ => exact absurd (show false = true from f) Bool.false_ne_true
theorem any_eqU {x : V} : ∀ {xs : List V} {us : List Value}, Vals xs us → xs.all flatV = true → us.any (eqU x) = xs.any fun y => eqV y x
 | _, _, .nil, _ => rfl
 | y :: xs, u :: us, .cons r t, f => by
  rw [List.all_cons, Bool.and_eq_true] at f
  rw [List.any_cons, List.any_cons, eqU_of r f.1, any_eqU t f.2]
theorem mem_eqAt {A : Around} {s : Shared} {x : V} {v : Value} (rx : RelV x v) (fx : flatV x = true) : ∀ {xs : List V} {us : List Value}, Vals xs us → xs.all flatV = true → ∀ u ∈ us, SeqAt.EqAt A s u v (eqU x u)
 | _, _, .nil, _ => fun u hu => by cases hu
 | y :: xs, u :: us, .cons r t, f => fun u' hu => by
  rw [List.all_cons, Bool.and_eq_true] at f
  rcases List.mem_cons.mp hu with rfl | hu
  ·rw [eqU_of r f.1]; exact eqAt_V r rx f.1 fx
  ·exact mem_eqAt rx fx t f.2 u' hu
def inV (x : V) (xs : List V) : Bool := xs.any fun y => eqV y x
def rIn (K : PySem.W.Frag) (neg : Bool) : R2 := fun x y H Q => ∃ p xs, y = .ref p ∧ (SqL K H p xs ∨ SqT K H p xs) ∧ flatV x = true ∧ xs.all flatV = true ∧ Q (.bl (if neg then !inV x xs else inV x xs)) H
theorem op_in_seq : OpR X (compareOp .In) (rIn X.K false) := by
 intro pins s σ H x y v u Q I rx ry h
 obtain ⟨p, xs, rfl, hq, fx, fs, q⟩ := h
 cases ry
 rcases hq with hq | hq
 ·obtain ⟨its, r, pl, hz⟩ := I.list hq
  refine SeqAt.in_listAt (eqU x) pl.isList (fun w hw => mem_eqAt rx fx r fs w (by simpa using hw)) ⟨.bl _, H, I, rfl, ?_⟩
  rw [show its.toArray.any (eqU x) = its.any (eqU x) by simp, any_eqU r fs]
  exact q
 ·obtain ⟨its, r, pl, hz⟩ := I.tuple hq
  refine SeqAt.in_tupleAt (eqU x) pl (fun w hw => mem_eqAt rx fx r fs w (by simpa using hw)) ⟨.bl _, H, I, rfl, ?_⟩
  rw [show its.toArray.any (eqU x) = its.any (eqU x) by simp, any_eqU r fs]
  exact q
theorem call_len_seq : CallR X (.builtin "len") (fun xs H Q => ∃ p ys, xs = [.ref p] ∧ (SqL X.K H p ys ∨ SqT X.K H p ys) ∧ Q (.int ys.length) H) := by
 intro pins s σ H xs us Q I r h
 obtain ⟨p, ys, rfl, hq, q⟩ := h
 obtain ⟨u, rfl, rx⟩ := vals1 r
 cases rx
 have hn := line63
 rcases hq with hq | hq
 ·obtain ⟨its, r', pl, hz⟩ := I.list hq
  have hlen := r'.length
  exact Calls.call_len_list pl.isList (by simp only [List.size_toArray] <;> omega) ⟨.int ys.length, H, I.tok _, ⟨s.toks + 1, by rw [List.size_toArray, hlen]⟩, q⟩
 ·obtain ⟨its, r', pl, hz⟩ := I.tuple hq
  have hlen := r'.length
  exact len_tuple pl (by simp only [List.size_toArray] <;> omega) ⟨.int ys.length, H, I.tok _, ⟨s.toks + 1, by rw [List.size_toArray, hlen]⟩, q⟩
def tyV (K : PySem.W.Frag) (T : String) (x : V) (H : Hp) : Prop := match x with
 | .str _ => T = "str"
 | .int _ => T = "int"
 | .ref p => (T = "list" ∧ ∃ xs, SqL K H p xs) ∨ (T = "tuple" ∧ ∃ o, K.lookup p = some o ∧ o.cls = .type "tuple" ∧ o.dict = none) ∨
   (T = "dict" ∧ ((∃ kvs, H p = some (.dK kvs)) ∨ ∃ kvs, H p = some (.dT kvs))) ∨ (T = "set" ∧ ∃ S n, H p = some (.set S n))
 | _ => False
theorem tyV_is {pins : List (Addr × Obj)} {σ : St} {H : Hp} {s : Shared} {T : String} {x : V} {v : Value} (I : Inv X pins σ H s) (r : RelV x v) (ty : tyV X.K T x H) :
  s.TypeIs v T ∧ ∀ a, v = .ref a → ∃ ob, s.heap.get? a = some ob ∧ ob.dict = none := by
 cases x with
 | str z =>
  obtain ⟨t, rfl⟩ := r
  cases (show T = "str" from ty)
  exact ⟨typeIs_str s z t, fun _ e => nomatch e⟩
 | int i =>
  obtain ⟨t, rfl⟩ := r
  cases (show T = "int" from ty)
  exact ⟨typeIs_int s i t, fun _ e => nomatch e⟩
 | ref p =>
  cases r
  rcases ty with ⟨rfl, xs, hq⟩ | ⟨rfl, o, hk, hc, hd⟩ | ⟨rfl, hk⟩ | ⟨rfl, S, n, hk⟩
  ·obtain ⟨its, _, pl, _⟩ := I.list hq
   refine ⟨pl.isList.typeIs, fun a e => ?_⟩
   cases e
   obtain ⟨o, n, e, c, hd, _⟩ := pl
   exact ⟨o, e, hd⟩
  ·refine ⟨⟨o, I.kIn p o hk, hc⟩, fun a e => ?_⟩
   cases e
   exact ⟨o, I.kIn _ o hk, hd⟩
  ·have z : ∃ o, s.heap.get? p = some o ∧ o.ExactDict := by
    rcases hk with ⟨kvs, hk⟩ | ⟨kvs, hk⟩
    ·obtain ⟨_, _, _, _, o, _, _, e, ex, _⟩ := I.hok p _ hk
     exact ⟨o, e, ex⟩
    ·obtain ⟨_, _, _, _, o, _, _, e, ex, _⟩ := I.hok p _ hk
     exact ⟨o, e, ex⟩
   obtain ⟨o, e, ex⟩ := z
   refine ⟨⟨o, e, ex.1⟩, fun a e2 => ?_⟩
   cases e2
   exact ⟨o, e, ex.2.1⟩
  ·obtain ⟨o, _, _, _, e, ex, _⟩ := I.hok p _ hk
   refine ⟨⟨o, e, ex.1⟩, fun a e2 => ?_⟩
   cases e2
   exact ⟨o, e, ex.2.1⟩
 | _ => exact False.elim ty
def tBM0 (K : PySem.W.Frag) (T : String) (r : V → List V → Hp → VK → Prop) (to : TE) : TE := fun σ H Q => to σ H fun x H1 => tyV K T x H1 ∧ r x [] H1 Q
def tBM (K : PySem.W.Frag) (T : String) (r : V → List V → Hp → VK → Prop) (to : TE) (t : TA) : TE := fun σ H Q => to σ H fun x H1 => tyV K T x H1 ∧ t σ H1 fun xs H2 => r x xs H2 Q
variable {o e : Expr} {es : List Expr} {to : TE} {t : TA} {name : Str} {apos cpos : Pos} {T id : String} {r : V → List V → Hp → VK → Prop}
theorem pe_bm0 (pa : PlainAttrs T) (slot : Slot T name id) (hty : typeOf (.builtin id) = pure (.type "method_descriptor")) (hm : MtR X id r) (ho : PE X o to)
  (hbase : attributeBase o name X.env (eval o X.env) = eval o X.env := by rfl) (hline : (apos.endLine == cpos.line) = true := by rfl) : PE X (.Call (.Attribute o name apos) [] [] cpos) (tBM0 X.K T r to) := by
 intro pins s σ H Q I h
 refine wpAny_Call_method0_late hbase hline (thn (ho pins s σ H _ I h) fun v s1 ⟨x, H1, I1, r1, ty, q1⟩ => ?_)
 obtain ⟨h1, h2⟩ := tyV_is I1 r1 ty
 exact ⟨T, id, pa, slot, hty, h1, h2, Calls.callWith_builtin rfl (PySem.evalArgs_none (hm pins s1 σ H1 x [] v [] Q I1 r1 .nil q1))⟩
theorem pe_bm (pa : PlainAttrs T) (slot : Slot T name id) (hty : typeOf (.builtin id) = pure (.type "method_descriptor")) (hm : MtR X id r) (ho : PE X o to) (ha : PA X (e :: es) t)
  (hbase : attributeBase o name X.env (eval o X.env) = eval o X.env := by rfl)
  (hfew : ((backTo cpos (starEach (e :: es) X.env)).all (fun x => !x.1) && (backToKw cpos (keywordEach [] X.env)).all (fun x => x.1.isSome)
   && decide ((e :: es).length + ([] : List Keyword).length + (if ([] : List Keyword).isEmpty then 0 else 1) < 30)) = true := by rfl)
  (hline : (apos.endLine == cpos.line) = true := by rfl) (hs : starEach (e :: es) X.env = (false, eval e X.env) :: starEach es X.env := by rfl) (hplain : (backTo cpos (starEach es X.env)).any (·.1) = false := by rfl) :
  PE X (.Call (.Attribute o name apos) (e :: es) [] cpos) (tBM X.K T r to t) := by
 intro pins s σ H Q I h
 refine wpAny_Call_method_late hbase hfew hline rfl (thn (ho pins s σ H _ I h) fun v s1 ⟨x, H1, I1, r1, ty, q1⟩ => ?_)
 obtain ⟨h1, h2⟩ := tyV_is I1 r1 ty
 refine ⟨T, id, pa, slot, hty, h1, h2, ?_⟩
 have hA := ha cpos pins s1 σ H1 _ I1 q1
 rw [hs] at hA ⊢
 refine Calls.callWith_builtin (by show (false || (backTo cpos (starEach es X.env)).any (·.1)) = false; rw [hplain] <;> rfl) (Calls.evalArgs_plain ?_)
 exact thn hA fun us s2 ⟨vs, H2, I2, r2, q2⟩ => hm pins s2 σ H2 x vs v us Q I2 r1 r2 q2
end
end L2
namespace L2
open PySem PySem.Spec PyProof.Rows
def MtM (X : Cx) (id : String) (r : V → List V → Hp → VK → Prop) : Prop :=
 ∀ (pins : List (Addr × Obj)) (s : Shared) (σ : St) (H : Hp) (x : V) (xs : List V) (v : Value) (us : List Value) (Q : VK), Inv X pins σ H s → RelV x v → Vals xs us → r x xs H Q →
  wpAny (model X.prog X.w) X.A (call (.builtin id) (v :: us)) (EP X pins σ Q) X.xe s
theorem Vals.one : ∀ {x : V} {us : List Value}, Vals [x] us → ∃ u, us = [u] ∧ RelV x u
 | _, _, .cons r .nil => ⟨_, rfl, r⟩
theorem Vals.zero : ∀ {us : List Value}, Vals [] us → us = []
 | _, .nil => rfl
theorem Vals.dropLast {xs : List V} {us : List Value} (h : Vals xs us) : Vals xs.dropLast us.dropLast := by
 induction h with
 | nil => exact .nil
 | cons r t ih =>
  cases t with
  | nil => exact .nil
  | cons q t' => exact .cons r ih
theorem Vals.rep {xs : List V} {us : List Value} (h : Vals xs us) : ∀ k : Nat, Vals (List.replicate k xs).flatten (List.replicate k us).flatten
 | 0 => .nil
 | k + 1 => by
  rw [List.replicate_succ, List.replicate_succ, List.flatten_cons, List.flatten_cons]
  exact Vals.append h (Vals.rep h k)
theorem erase_last {α : Type} (l : List α) : l.eraseIdx (l.length - 1) = l.dropLast := by
 induction l with
 | nil => rfl
 | cons a r ih =>
  cases r with
  | nil => rfl
  | cons b r =>
   have e : (a :: b :: r).length - 1 = ((b :: r).length - 1) + 1 := by
    have h1 : (a :: b :: r).length = r.length + 2 := rfl
    have h2 : (b :: r).length = r.length + 1 := rfl
    omega
   rw [e, List.eraseIdx_cons_succ, ih]
   all_goals rfl
theorem foldl_rep (its : List Value) : ∀ (k : Nat) (acc : List Value),
  List.foldl (fun x1 x2 => x1 ++ x2) acc.toArray (List.replicate k its.toArray) = (acc ++ (List.replicate k its).flatten).toArray
 | 0, acc => by simp
 | k + 1, acc => by
  have e : acc.toArray ++ its.toArray = (acc ++ its).toArray := by simp
  have e2 : (acc ++ its) ++ (List.replicate k its).flatten = acc ++ (List.replicate (k + 1) its).flatten := by
   rw [List.replicate_succ, List.flatten_cons, List.append_assoc]
  rw [← e2, ← foldl_rep its k (acc ++ its), ← e, List.replicate_succ, List.foldl_cons]
section
variable {X : Cx} {pins : List (Addr × Obj)} {σ : St} {H : Hp} {s : Shared} {l b : Addr} {xs ys zs : List V}
theorem Inv.lset {its its' : List Value} {n : Nat} {f : Array Value → Array Value} {t' : Nat} (I : Inv X pins σ H s) (hH : H l = some (.lst xs))
  (e : s.heap.get? l = some { cls := .type "list", data := .seq its.toArray n }) (hf : f its.toArray = its'.toArray) (hv : Vals ys its') (hz : ys.length ≤ sizeLine) :
  Inv X pins σ (upd H l (.lst ys)) { s with heap := s.heap.update l (Obj.mapSeq f), toks := t' } := by
 have q := PySem.IsL.update e f
 rw [hf] at q
 refine I.write (x := l) (e := l) (by rw [hH]; exact trivial) (.inl rfl) (fun b' u hb hu => (Heap.get?_update_other s.heap (Obj.mapSeq f) (Ne.symm hb)).trans hu) ⟨_, q⟩ ?_
 exact ⟨hz, its', _, hv, q⟩
theorem Inv.lnew {its : List Value} {t' : Nat} (I : Inv X pins σ H s) (hv : Vals ys its) (hz : ys.length ≤ sizeLine) :
  Inv X pins σ (upd H s.heap.objs.size (.lst ys)) { s with heap := s.heap.push { cls := .type "list", data := .seq its.toArray }, toks := t' } :=
 I.laid (fun _ _ q => Heap.get?_push_of_some _ q) (Nat.le_refl _) ⟨hz, its, 0, hv, Heap.get?_push_size _ rfl⟩
theorem Inv.fresh (I : Inv X pins σ H s) : H s.heap.objs.size = none := I.hok.fresh (Nat.le_refl _)
theorem Inv.lstM (I : Inv X pins σ H s) (hH : H l = some (.lst xs)) : xs.length ≤ sizeLine ∧ ∃ (its : List Value) (n : Nat), Vals xs its ∧ xs.length = its.length ∧ s.heap.get? l = some { cls := .type "list", data := .seq its.toArray n } := by
 obtain ⟨z, its, n, r, e⟩ := I.hok l _ hH
 exact ⟨z, its, n, r, r.length, e⟩
theorem notLongL {n : Nat} (h : n ≤ sizeLine) : Builtin.List.listTooLong n = false := by
 unfold Builtin.List.listTooLong
 exact decide_eq_false (by omega)
end
section
variable {X : Cx}
def rAppend : V → List V → Hp → VK → Prop := fun x vs H Q => ∃ l xs y, x = .ref l ∧ vs = [y] ∧ H l = some (.lst xs) ∧ xs.length < sizeLine ∧ Q .non (upd H l (.lst (xs ++ [y])))
theorem mt_append : MtM X "list.append" rAppend := by
 intro pins s σ H x vs v us Q I rx rv h
 obtain ⟨l, xs, y, rfl, rfl, hH, hz, q⟩ := h
 cases rx
 obtain ⟨u, rfl, ru⟩ := rv.one
 obtain ⟨z, its, n, r, hl, e⟩ := I.lstM hH
 refine call_meets F.slot_list_append ⟨_, e, rfl⟩ F.entry_list_append (F.args_list_append_2 _ _) (PySem.list_append l its.toArray n u (by rw [List.size_toArray]; omega)) ⟨e, ?_⟩
 refine ⟨.non, _, I.lset (its' := its ++ [u]) hH e (by simp) (r.append (.cons ru .nil)) ?_, rfl, q⟩
 rw [List.length_append, List.length_singleton]
 omega
def rExtend : V → List V → Hp → VK → Prop := fun x vs H Q => ∃ l b xs zs, x = .ref l ∧ vs = [.ref b] ∧ H l = some (.lst xs) ∧ H b = some (.lst zs) ∧ xs.length + zs.length ≤ sizeLine ∧ Q .non (upd H l (.lst (xs ++ zs)))
theorem mt_extend : MtM X "list.extend" rExtend := by
 intro pins s σ H x vs v us Q I rx rv h
 obtain ⟨l, b, xs, zs, rfl, rfl, hH, hB, hz, q⟩ := h
 cases rx
 obtain ⟨u, rfl, ru⟩ := rv.one
 cases ru
 obtain ⟨z, its, n, r, hl, e⟩ := I.lstM hH
 obtain ⟨z2, its2, n2, r2, hl2, e2⟩ := I.lstM hB
 have hsz : its.toArray.size + its2.toArray.size ≤ sizeLine := by rw [List.size_toArray, List.size_toArray]; omega
 have hlong : ¬ (!its.toArray.isEmpty && Builtin.List.listTooLong (its.toArray.size + its2.toArray.size)) = true := by
  rw [notLongL hsz, Bool.and_false]
  exact Bool.false_ne_true
 refine call_meets F.slot_list_extend ⟨_, e, rfl⟩ F.entry_list_extend (F.args_list_extend_2 _ _)
  (AutoSeq1.list_extend_list_list_0 l its.toArray n b its2.toArray n2 hlong (by rw [List.size_toArray]; omega) (by omega)) ⟨e, e2, ?_⟩
 refine ⟨.non, _, I.lset (its' := its ++ its2) hH e (by simp) (r.append r2) ?_, rfl, q⟩
 rw [List.length_append]
 omega
def rPop : V → List V → Hp → VK → Prop := fun x vs H Q => ∃ l xs y, x = .ref l ∧ vs = [] ∧ H l = some (.lst xs) ∧ xs[xs.length - 1]? = some y ∧ Q y (upd H l (.lst xs.dropLast))
theorem mt_pop : MtM X "list.pop" rPop := by
 intro pins s σ H x vs v us Q I rx rv h
 obtain ⟨l, xs, y, rfl, rfl, hH, hy, q⟩ := h
 cases rx
 have hus := rv.zero
 subst hus
 obtain ⟨z, its, n, r, hl, e⟩ := I.lstM hH
 obtain ⟨u, hu, ru⟩ := r.get hy
 have hy' : its.toArray[its.toArray.size - 1]? = some u := by
  show its.toArray[its.length - 1]? = some u
  rw [← Array.getElem?_toList, ← hl]
  exact hu
 refine call_meets F.slot_list_pop ⟨_, e, rfl⟩ F.entry_list_pop (F.args_list_pop_1 _) (MeetsSeq.list_pop_last l its.toArray n u hy' (by rw [List.size_toArray]; omega)) ⟨e, ?_⟩
 refine ⟨y, _, I.lset (its' := its.dropLast) hH e ?_ r.dropLast ?_, ru, q⟩
 ·show its.toArray.eraseIdxIfInBounds (its.toArray.size - 1) = its.dropLast.toArray
  rw [List.size_toArray, List.eraseIdxIfInBounds_toArray, erase_last]
 ·rw [List.length_dropLast]
  omega
def rCat : R2 := fun x y H Q => ∃ l b xs zs, x = .ref l ∧ y = .ref b ∧ H l = some (.lst xs) ∧ H b = some (.lst zs) ∧ xs.length + zs.length ≤ sizeLine ∧ ∀ p, H p = none → Q (.ref p) (upd H p (.lst (xs ++ zs)))
theorem op_cat : OpR X (binaryOp .Add) rCat := by
 intro pins s σ H x y v u Q I rx ry h
 obtain ⟨l, b, xs, zs, rfl, rfl, hH, hB, hz, q⟩ := h
 cases rx
 cases ry
 obtain ⟨z, its, n, r, hl, e⟩ := I.lstM hH
 obtain ⟨z2, its2, n2, r2, hl2, e2⟩ := I.lstM hB
 refine PySem.P.add_list e e2 ?_ (by rw [List.size_toArray, List.size_toArray]; omega)
 have ea : its.toArray ++ its2.toArray = (its ++ its2).toArray := by simp
 rw [ea]
 exact ⟨.ref _, _, I.lnew (t' := s.toks) (r.append r2) (by rw [List.length_append]; omega), rfl, q _ I.fresh⟩
def rRep : R2 := fun x y H Q => ∃ l k xs, x = .ref l ∧ y = .int k ∧ H l = some (.lst xs) ∧ -(2 ^ 63) ≤ k ∧ k < 2 ^ 63 ∧ xs.length * k.toNat ≤ sizeLine ∧
 ∀ p, H p = none → Q (.ref p) (upd H p (.lst (List.replicate k.toNat xs).flatten))
theorem len_rep {α : Type} (xs : List α) (k : Nat) : (List.replicate k xs).flatten.length = k * xs.length := by
 induction k with
 | zero => simp
 | succ k ih => rw [List.replicate_succ, List.flatten_cons, List.length_append, ih, Nat.succ_mul, Nat.add_comm]
theorem op_rep : OpR X (binaryOp .Mult) rRep := by
 intro pins s σ H x y v u Q I rx ry h
 obtain ⟨l, k, xs, rfl, rfl, hH, h1, h2, hz, q⟩ := h
 cases rx
 obtain ⟨t, rfl⟩ := ry
 obtain ⟨z, its, n, r, hl, e⟩ := I.lstM hH
 have hlen : its.toArray.size * k.toNat ≤ sizeLine := by rw [List.size_toArray, ← hl]; exact hz
 have hcap : ¬ its.toArray.size * k.toNat > (2 ^ 63 - 1) / 8 := by
  have : (sizeLine : Nat) ≤ (2 ^ 63 - 1) / 8 := by decide
  omega
 have hfit : ¬ (!Builtin.List.listFitsIndex k) = true := by
  rw [fitsIndex_both h1 h2]
  exact Bool.false_ne_true
 have hlong : ¬ Builtin.List.listTooLong (its.toArray.size * k.toNat) = true := by
  rw [notLongL hlen]
  exact Bool.false_ne_true
 have hnew : List.foldl (fun x1 x2 => x1 ++ x2) #[] (List.replicate (if its.toArray.isEmpty = true then 0 else k.toNat) its.toArray) = (List.replicate k.toNat its).flatten.toArray := by
  have f0 : ∀ m : Nat, List.foldl (fun x1 x2 => x1 ++ x2) #[] (List.replicate m its.toArray) = (List.replicate m its).flatten.toArray := fun m => by
   have := foldl_rep its m []
   rw [List.nil_append] at this
   exact this
  rw [f0]
  cases its with
  | nil => simp
  | cons a r' => rw [if_neg (by simp)]
 refine wpAny_binaryOp_repeat_ref (T := "list") (U := "int") (by decide) ⟨_, e, rfl⟩ (fun s' => typeIs_int s' k t) noFill_list_mul F.fills_int_mul F.slot_int_rmul repeat_list F.slot_int_index.lookup
  (call_meets F.slot_int_rmul (typeIs_int s k t) F.entry_int_rmul (F.args_int_rmul_2 _ _) (int___rmul___int_list k t l its.toArray n)
   ⟨e, rfl, ⟨_, e, rfl⟩, call_meets F.slot_list_mul ⟨_, e, rfl⟩ F.entry_list_mul (F.args_list_mul_2 _ _) (AutoListH.list___mul___list_int_3 l its.toArray n k t hfit hcap hlong) ⟨e, ?_⟩⟩)
 rw [hnew]
 exact ⟨.ref _, _, I.lnew (t' := s.toks) (r.rep k.toNat) (by rw [len_rep, Nat.mul_comm]; exact hz), rfl, q _ I.fresh⟩
end
section
variable {prog : Program} {w : World} {A : Around} {E : Value → Shared → Prop} {s : Shared}
end
section
variable {X : Cx}
end
end L2
namespace L2
open PySem PySem.Spec PyProof.Rows
section
variable {prog : Program} {w : World} {A : Around} {E : Value → Shared → Prop} {s : Shared} {l : Addr} {its : List Value} {ns : List Int} {Q : Value → Shared → Prop}
end
section
variable {X : Cx}
end
section
variable {X : Cx}
end
section
variable {X : Cx}
end
section
variable {X : Cx}
end
section
variable {X : Cx} {pins : List (Addr × Obj)} {σ : St} {H : Hp} {s : Shared}
end
section
variable {X : Cx}
end
end L2
namespace L2
open PySem PySem.Spec PyProof.Rows
abbrev CellAt (h : Heap) (c : Addr) (v : Option Value) : Prop := h.IsCell c v
def relS (scope sc : Scope) : Scope :=
 { scope with names := scope.names.map fun (n, k) => if (k == .free && sc.kind == .function && sc.names.lookup n == some .cell) then (n, .cell) else (n, k) }
def cloFrom (cells : List (Str × Addr)) : List (Str × NameKind) → List (Str × Addr) → List (Str × Addr)
 | [], acc => acc
 | (n, k) :: r, acc => if k == .free then cloFrom cells r ((n, (cells.lookup n).getD 0) :: acc) else cloFrom cells r acc
theorem closure_loop (env : Env) (f : Str × NameKind → List (Str × Addr) → Sem (ForInStep (List (Str × Addr))))
  (hf : ∀ n k c, f (n, k) c = if k == .free then (do let a ← cellOf env n; pure (.yield ((n, a) :: c))) else pure (.yield c)) :
  ∀ (names : List (Str × NameKind)) (acc : List (Str × Addr)), (∀ y ∈ names, y.2 = .free → ∃ c, env.cells.lookup y.1 = some c) → forIn names acc f = pure (cloFrom env.cells names acc)
 | [], acc, _ => by rw [List.forIn_nil]; rfl
 | (n, k) :: r, acc, h => by
  rw [List.forIn_cons, hf]
  have ih := fun acc => closure_loop env f hf r acc fun y hy => h y (List.mem_cons_of_mem _ hy)
  unfold cloFrom
  by_cases hk : (k == NameKind.free) = true
  ·rw [if_pos hk, if_pos hk]
   obtain ⟨c, hc⟩ := h (n, k) List.mem_cons_self (by simpa using hk)
   have e : cellOf env n = pure c := by unfold cellOf; rw [hc]
   rw [e]
   have e2 : (env.cells.lookup n).getD 0 = c := by rw [hc]; rfl
   rw [e2]
   exact ih _
  ·rw [if_neg hk, if_neg hk]
   exact ih _
theorem closure_ok {scope : Scope} {env : Env} (h : ∀ y ∈ scope.names, y.2 = .free → ∃ c, env.cells.lookup y.1 = some c) : closureFor scope env = pure (cloFrom env.cells scope.names []) := by
 simp only [closureFor]
 rw [closure_loop env _ (fun n k c => rfl) scope.names [] h]
 rfl
theorem mem_lookup {α : Type} : ∀ {l : List (Str × α)} {n : Str} {c : α}, (n, c) ∈ l → ∃ c', l.lookup n = some c'
 | (k, v) :: r, n, c, h => by
  rw [List.lookup_cons]
  cases hb : n == k with
  | true => exact ⟨_, rfl⟩
  | false =>
   rcases List.mem_cons.mp h with e | h
   ·cases e; simp at hb
   ·exact mem_lookup h
theorem cloFrom_mem {cells : List (Str × Addr)} : ∀ {names : List (Str × NameKind)} {acc : List (Str × Addr)} {n : Str} {c : Addr}, (n, c) ∈ cloFrom cells names acc → (n, c) ∈ acc ∨ ((n, .free) ∈ names ∧ c = (cells.lookup n).getD 0)
 | [], _, _, _, h => .inl h
 | (m, k) :: r, acc, n, c, h => by
  unfold cloFrom at h
  split at h
  ·rename_i hk
   have hk : k = .free := by simpa using hk
   rcases cloFrom_mem h with h | ⟨h1, h2⟩
   ·rcases List.mem_cons.mp h with e | h
    ·cases e; exact .inr ⟨hk ▸ List.mem_cons_self, rfl⟩
    ·exact .inl h
   ·exact .inr ⟨List.mem_cons_of_mem _ h1, h2⟩
  ·rcases cloFrom_mem h with h | ⟨h1, h2⟩
   ·exact .inl h
   ·exact .inr ⟨List.mem_cons_of_mem _ h1, h2⟩
theorem cloFrom_acc {cells : List (Str × Addr)} : ∀ {names : List (Str × NameKind)} {acc : List (Str × Addr)} {p : Str × Addr}, p ∈ acc → p ∈ cloFrom cells names acc
 | [], _, _, h => h
 | (m, k) :: r, acc, p, h => by
  unfold cloFrom
  split
  ·exact cloFrom_acc (List.mem_cons_of_mem _ h)
  ·exact cloFrom_acc h
theorem cloFrom_has {cells : List (Str × Addr)} : ∀ {names : List (Str × NameKind)} {acc : List (Str × Addr)} {n : Str}, (n, .free) ∈ names → (n, (cells.lookup n).getD 0) ∈ cloFrom cells names acc
 | (m, k) :: r, acc, n, h => by
  unfold cloFrom
  rcases List.mem_cons.mp h with e | h
  ·cases e
   exact cloFrom_acc List.mem_cons_self
  ·split
   ·exact cloFrom_has h
   ·exact cloFrom_has h
theorem cells_mem : ∀ {names : List (Str × NameKind)} {h : Heap} {acc : List (Str × Addr)} {x : Str} {c : Addr}, (x, c) ∈ cellsFrom h.objs.size names acc →
  (x, c) ∈ acc ∨ ((x, .cell) ∈ names ∧ h.objs.size ≤ c ∧ CellAt (pushCells h names) c none)
 | [], _, _, _, _, h => .inl h
 | (n, k) :: r, h, acc, x, c, hm => by
  unfold cellsFrom at hm
  unfold pushCells
  split at hm
  ·rename_i hk
   rw [if_pos hk]
   have hk : k = .cell := by simpa using hk
   rw [← Heap.size_push h { cls := .type "cell", data := .cell none }] at hm
   rcases cells_mem hm with hm | ⟨h1, h2, h3⟩
   ·rcases List.mem_cons.mp hm with e | hm
    ·cases e
     exact .inr ⟨hk ▸ List.mem_cons_self, Nat.le_refl _, _, pushCells_keeps r _ _ _ (Heap.get?_push_size _ rfl), rfl⟩
    ·exact .inl hm
   ·rw [Heap.size_push] at h2
    exact .inr ⟨List.mem_cons_of_mem _ h1, Nat.le_of_succ_le h2, h3⟩
  ·rename_i hk
   rw [if_neg hk]
   rcases cells_mem hm with hm | ⟨h1, h2, h3⟩
   ·exact .inl hm
   ·exact .inr ⟨List.mem_cons_of_mem _ h1, h2, h3⟩
theorem cells_acc : ∀ {names : List (Str × NameKind)} {n : Nat} {acc : List (Str × Addr)} {p : Str × Addr}, p ∈ acc → p ∈ cellsFrom n names acc
 | [], _, _, _, h => h
 | (m, k) :: r, n, acc, p, h => by
  unfold cellsFrom
  split
  ·exact cells_acc (List.mem_cons_of_mem _ h)
  ·exact cells_acc h
theorem cells_has : ∀ {names : List (Str × NameKind)} {n : Nat} {acc : List (Str × Addr)} {x : Str}, (x, .cell) ∈ names → ∃ c, (x, c) ∈ cellsFrom n names acc
 | (m, k) :: r, n, acc, x, h => by
  unfold cellsFrom
  rcases List.mem_cons.mp h with e | h
  ·cases e
   exact ⟨n, cells_acc List.mem_cons_self⟩
  ·split
   ·exact cells_has h
   ·exact cells_has h
theorem cells_inj : ∀ {names : List (Str × NameKind)} {h : Heap} {acc : List (Str × Addr)} {x y : Str} {c : Addr}, (∀ p ∈ acc, p.2 < h.objs.size) → (∀ x y c, (x, c) ∈ acc → (y, c) ∈ acc → x = y) →
  (x, c) ∈ cellsFrom h.objs.size names acc → (y, c) ∈ cellsFrom h.objs.size names acc → x = y
 | [], _, _, _, _, _, _, hi, h1, h2 => hi _ _ _ h1 h2
 | (n, k) :: r, h, acc, x, y, c, hl, hi, h1, h2 => by
  unfold cellsFrom at h1 h2
  split at h1
  ·rename_i hk
   rw [if_pos hk] at h2
   rw [← Heap.size_push h { cls := .type "cell", data := .cell none }] at h1 h2
   refine cells_inj (h := h.push _) (fun p hp => ?_) (fun x y c a b => ?_) h1 h2
   ·rw [Heap.size_push]
    rcases List.mem_cons.mp hp with rfl | hp
    ·exact Nat.lt_succ_self _
    ·exact Nat.lt_succ_of_lt (hl p hp)
   ·rcases List.mem_cons.mp a with e | a <;> rcases List.mem_cons.mp b with e' | b
    ·cases e; cases e'; rfl
    ·cases e; exact absurd (hl _ b) (Nat.lt_irrefl _)
    ·cases e'; exact absurd (hl _ a) (Nat.lt_irrefl _)
    ·exact hi _ _ _ a b
  ·rename_i hk
   rw [if_neg hk] at h2
   exact cells_inj hl hi h1 h2
theorem newEnv_comp {M : Model} {A : Around} {E : Value → Shared → Prop} {s : Shared} {scope : Scope} {globals : Addr} {closure : List (Str × Addr)} {qual : Str} {func : Option Addr} {code : Value} {around : Env} {builtins : Addr} {Q : Env → Shared → Prop}
  (h : Q (newEnv scope s.heap.objs.size globals (cellsFrom (s.heap.objs.size + 1) scope.names closure) qual func code (some around) builtins)
   { s with heap := pushCells (s.heap.push { cls := .type "dict", data := .dict #[] }) scope.names }) :
  wpAny M A (newFunctionEnv scope globals closure [] qual func code (some around) builtins) Q E s := by
 simp only [newFunctionEnv, Option.isSome_some, if_true]
 refine wpAny_bind (wpAny_alloc ?_)
 refine wpAny_bind (wpAny_layCells _ (fun n k c => rfl) scope.names closure _ _ ?_)
 rw [show ({ s with heap := s.heap.push { cls := .type "dict", data := .dict #[] } } : Shared).heap.objs.size = s.heap.objs.size + 1 from Heap.size_push ..]
 rw [List.forIn_nil]
 exact wpAny_bind (wpAny_pure (wpAny_pure h))
theorem lookup_relS {sc : Scope} : ∀ {names : List (Str × NameKind)} {x : Str} {k : NameKind},
  (names.map fun (n, k) => if (k == NameKind.free && sc.kind == .function && sc.names.lookup n == some .cell) then (n, NameKind.cell) else (n, k)).lookup x = some k →
  ∃ k', names.lookup x = some k' ∧ (k = k' ∨ (k' = .free ∧ k = .cell))
 | [], _, _, h => by simp at h
 | (n, k₀) :: r, x, k, h => by
  have ih := @lookup_relS sc r x k
  have h' : List.lookup x ((if (k₀ == NameKind.free && sc.kind == .function && sc.names.lookup n == some .cell) = true then (n, NameKind.cell) else (n, k₀)) :: (r.map _)) = some k := h
  cases hx : x == n with
  | true =>
   simp only [List.lookup_cons, hx]
   by_cases hc : (k₀ == NameKind.free && sc.kind == .function && sc.names.lookup n == some .cell) = true
   ·rw [if_pos hc] at h'
    simp only [List.lookup_cons, hx] at h'
    cases h'
    simp only [Bool.and_eq_true, beq_iff_eq] at hc
    exact ⟨k₀, rfl, .inr ⟨hc.1.1, rfl⟩⟩
   ·rw [if_neg hc] at h'
    simp only [List.lookup_cons, hx] at h'
    cases h'
    exact ⟨_, rfl, .inl rfl⟩
  | false =>
   simp only [List.lookup_cons, hx]
   by_cases hc : (k₀ == NameKind.free && sc.kind == .function && sc.names.lookup n == some .cell) = true
   ·rw [if_pos hc] at h'
    simp only [List.lookup_cons, hx] at h'
    exact ih h'
   ·rw [if_neg hc] at h'
    simp only [List.lookup_cons, hx] at h'
    exact ih h'
structure BlkOk (N : List Str) (sc scope : Scope) (own : List (Str × Nat)) : Prop where
 kind : scope.kind = .function
 uniq : ∀ y ∈ scope.names, scope.names.lookup y.1 = some y.2
 ix : ∀ p ∈ own, N[p.2]? = some p.1
 free : ∀ y ∈ scope.names, y.2 = .free → sc.names.lookup y.1 = some .cell ∨ sc.names.lookup y.1 = some .free
 own : ∀ y ∈ scope.names, y.2 = .local ∨ y.2 = .cell → y.1 ∈ own.map (·.1) ∨ y.1 ∉ N
def wipe (σ : St) : List Nat → St
 | [] => σ
 | v :: vs => (wipe σ vs).set v none
theorem wipe_length (σ : St) : ∀ vs : List Nat, (wipe σ vs).length = σ.length
 | [] => rfl
 | v :: vs => by unfold wipe; rw [List.length_set, wipe_length σ vs]
theorem wipe_some {σ : St} {i : Nat} {x : V} : ∀ {vs : List Nat}, (wipe σ vs)[i]? = some (some x) → σ[i]? = some (some x) ∧ i ∉ vs
 | [], h => ⟨h, by simp⟩
 | v :: vs, h => by
  unfold wipe at h
  by_cases hi : v = i
  ·subst hi
   by_cases hv : v < (wipe σ vs).length
   ·rw [List.getElem?_set_self hv] at h; cases h
   ·rw [List.getElem?_eq_none (by simpa using hv)] at h; cases h
  ·rw [List.getElem?_set_ne hi] at h
   obtain ⟨h1, h2⟩ := wipe_some h
   exact ⟨h1, by simp only [List.mem_cons, not_or]; exact ⟨fun e => hi e.symm, h2⟩⟩
abbrev Cx.blk (X : Cx) (s : Shared) (H : Hp) (scope : Scope) (cenv : Env) (fp : List Addr) : Cx := { X with s_0 := s, H_0 := H, env := cenv, outer := X.stack, ex := fp, fn := fun x => scope.names.lookup x == some .cell, pn := [], xe := fun _ _ => False }
section
variable {X : Cx} {pins : List (Addr × Obj)} {σ : St} {H : Hp} {s : Shared}
theorem block_start {scope : Scope} {own : List (Str × Nat)} {fp : List Addr} (I : Inv X pins σ H s) (ok : BlkOk X.N X.env.scope scope own) (hN : X.N.Nodup) (hfp : ∀ b ∈ fp, FpOk X pins H b ∧ b < s.heap.objs.size) :
  Inv (X.blk s H scope (compEnvC scope (cellsFrom (s.heap.objs.size + 1) scope.names (cloFrom X.env.cells scope.names [])) s.heap.objs.size X.env) fp) [] (wipe σ (own.map (·.2))) H { s with heap := pushCells (s.heap.push { cls := .type "dict", data := .dict #[] }) scope.names } := by
 have hfree : ∀ y ∈ scope.names, y.2 = .free → ∃ c, X.env.cells.lookup y.1 = some c := fun y hy e => by
  rcases ok.free y hy e with k | k
  ·exact I.ok.has _ (.inl k)
  ·exact I.ok.has _ (.inr k)
 generalize hcenv : compEnvC scope (cellsFrom (s.heap.objs.size + 1) scope.names (cloFrom X.env.cells scope.names [])) s.heap.objs.size X.env = cenv
 have kp : ∀ b o, s.heap.get? b = some o → (pushCells (s.heap.push { cls := .type "dict", data := .dict #[] }) scope.names).get? b = some o := fun b o e => pushCells_keeps _ _ _ _ (Heap.get?_push_of_some _ e)
 have hL : cenv.locals = s.heap.objs.size := by rw [← hcenv]; rfl
 have hcl : cenv.cells = cellsFrom (s.heap.objs.size + 1) scope.names (cloFrom X.env.cells scope.names []) := by rw [← hcenv]; rfl
 have hsc : cenv.scope = relS scope X.env.scope := by rw [← hcenv]; rfl
 rw [← Heap.size_push s.heap { cls := .type "dict", data := .dict #[] }] at hcl
 have cm : ∀ {y c}, (y, c) ∈ cloFrom X.env.cells scope.names [] → X.env.cells.lookup y = some c ∧ c < s.heap.objs.size := fun {y c} hm => by
  rcases cloFrom_mem hm with hm | ⟨h1, rfl⟩
  ·cases hm
  ·obtain ⟨c, hc⟩ := hfree _ h1 rfl
   rw [hc]
   obtain ⟨w, z⟩ := I.cell _ _ hc
   exact ⟨rfl, z.lt⟩
 have mem : ∀ {y c}, cenv.cells.lookup y = some c → (X.env.cells.lookup y = some c ∧ c < s.heap.objs.size) ∨ (s.heap.objs.size + 1 ≤ c ∧ CellAt (pushCells (s.heap.push { cls := .type "dict", data := .dict #[] }) scope.names) c none) := fun {y c} e => by
  rw [hcl] at e
  rcases cells_mem (PySem.mem_of_lookup e) with hm | ⟨_, h2, h3⟩
  ·exact .inl (cm hm)
  ·rw [Heap.size_push] at h2; exact .inr ⟨h2, h3⟩
 have look : ∀ {y}, scope.names.lookup y = some .free → ∃ c, cenv.cells.lookup y = some c ∧ X.env.cells.lookup y = some c := fun {y} hl => by
  have hy : (y, NameKind.free) ∈ scope.names := PySem.mem_of_lookup hl
  obtain ⟨c', e'⟩ := mem_lookup (cells_acc (names := scope.names) (n := (s.heap.push { cls := .type "dict", data := .dict #[] }).objs.size) (cloFrom_has (cells := X.env.cells) (acc := []) hy))
  rw [← hcl] at e'
  refine ⟨c', e', ?_⟩
  rw [hcl] at e'
  rcases cells_mem (PySem.mem_of_lookup e') with hm | ⟨h1, _, _⟩
  ·exact (cm hm).1
  ·have := ok.uniq _ h1
   rw [hl] at this; cases this
 have okB : (X.blk s H scope cenv fp).Ok := by
  refine ⟨I.ok.mod, by show cenv.scope.kind = _; rw [hsc]; exact ok.kind, by show cenv.globals = _; rw [← hcenv]; exact I.ok.glob, by show cenv.builtins = _; rw [← hcenv]; exact I.ok.blt, by show s.heap.objs.size ≤ cenv.locals; rw [hL]; exact Nat.le_refl _,
   fun y z c e1 e2 => ?_, fun y hy => ?_, fun y c z e => ?_, I.ok.hd, I.ok.frames, .inl rfl, fun b hb => ⟨?_, fun y c e z => ?_⟩, I.bs, Nat.le_trans I.ok.bsz I.sz, fun b o e hb => ?_, fun b hb z => ?_, I.stack, I.stkFree⟩
  ·have e1 : cenv.cells.lookup y = some c := e1
   have e2 : cenv.cells.lookup z = some c := e2
   rw [hcl] at e1 e2
   refine cells_inj (fun p hp => ?_) (fun y z c a b => I.ok.inj y z c (cm a).1 (cm b).1) (PySem.mem_of_lookup e1) (PySem.mem_of_lookup e2)
   rw [Heap.size_push]
   exact Nat.lt_succ_of_lt (cm (y := p.1) (c := p.2) hp).2
  ·show ∃ c, cenv.cells.lookup y = some c
   have key : ∀ k, cenv.kindOf y = some k → (k = .cell ∨ k = .free) → ∃ c, cenv.cells.lookup y = some c := fun k hk hk' => by
    unfold Env.kindOf at hk
    rw [hsc] at hk
    obtain ⟨k', e, r⟩ := lookup_relS hk
    have : k' = .cell ∨ k' = .free := by
     rcases r with rfl | ⟨rfl, _⟩
     ·exact hk'
     ·exact .inr rfl
    rcases this with rfl | rfl
    ·obtain ⟨c, hm⟩ := cells_has (n := (s.heap.push { cls := .type "dict", data := .dict #[] }).objs.size) (acc := cloFrom X.env.cells scope.names []) (PySem.mem_of_lookup e)
     obtain ⟨c', e'⟩ := mem_lookup hm
     exact ⟨c', by rw [hcl]; exact e'⟩
    ·obtain ⟨c, h1, _⟩ := look e
     exact ⟨c, h1⟩
   rcases hy with hy | hy
   ·exact key _ hy (.inl rfl)
   ·exact key _ hy (.inr rfl)
  ·have z : (scope.names.lookup y == some NameKind.cell) = true := z
   have z : scope.names.lookup y = some .cell := by simpa using z
   have e : cenv.cells.lookup y = some c := e
   rw [hcl] at e
   rcases cells_mem (PySem.mem_of_lookup e) with hm | ⟨_, h2, _⟩
   ·rcases cloFrom_mem hm with hm | ⟨h1, _⟩
    ·cases hm
    ·have q := ok.uniq _ h1
     rw [z] at q; cases q
   ·rw [Heap.size_push] at h2
    exact Nat.le_of_succ_le h2
  ·show b ≠ cenv.locals
   rw [hL]; exact Nat.ne_of_lt (hfp b hb).2
  ·have e : cenv.cells.lookup y = some c := e
   rcases mem e with ⟨h1, _⟩ | ⟨h1, _⟩
   ·exact (hfp b hb).1.2.2.2.2.1 y c h1 z
   ·have h2 : s.heap.objs.size + 1 ≤ b := by rw [← z]; exact h1
    exact absurd (Nat.lt_of_lt_of_le (hfp b hb).2 (Nat.le_of_succ_le h2)) (Nat.lt_irrefl _)
  ·rcases (hfp b hb).1.2.2.2.1 with z | z
   ·exact I.ok.noex b o e z
   ·exact absurd (Nat.lt_of_lt_of_le (Heap.lt_size e) (Nat.le_trans I.ok.bsz z)) (Nat.lt_irrefl _)
  ·rcases List.mem_cons.mp (I.stkSub b z) with z | z
   ·exact (hfp b hb).1.2.1 z
   ·exact (hfp b hb).1.2.2.1 z
 refine ⟨okB, rfl, I.bare, Un.kept kp, ⟨fun _ => none, ?_, fun i y av e1 e2 e3 => ?_⟩, fun y c e => ?_, ?_, fun y c e => ?_, fun p hp => ?_, I.hok.kept kp, by rw [wipe_length]; exact I.len⟩
 ·show Heap.Ns _ cenv.locals _
  rw [hL]
  exact Heap.Ns.keeps (Heap.Ns.new ..) fun b o e => pushCells_keeps _ _ _ _ e
 ·obtain ⟨e2, hne⟩ := wipe_some e2
  have hfr : scope.names.lookup y = some .free ∧ (cenv.kindOf y = some .cell ∨ cenv.kindOf y = some .free) := by
   have key : ∀ k, cenv.scope.names.lookup y = some k → k = .local ∨ k = .cell ∨ k = .free → scope.names.lookup y = some .free ∧ (cenv.kindOf y = some .cell ∨ cenv.kindOf y = some .free) := fun k hk hk' => by
    have hk0 := hk
    rw [hsc] at hk
    obtain ⟨k', e, r⟩ := lookup_relS hk
    have no : ¬ (k' = .local ∨ k' = .cell) := fun hh => by
     rcases ok.own _ (PySem.mem_of_lookup e) hh with e' | e'
     ·obtain ⟨p, hp, hpy⟩ := List.mem_map.mp e'
      have e3 := ok.ix p hp
      have : p.1 = y := hpy
      rw [this] at e3
      exact hne (List.mem_map.mpr ⟨p, hp, nodup_ix hN e3 e1⟩)
     ·exact e' (List.mem_of_getElem? e1)
    rcases r with rfl | ⟨rfl, rfl⟩
    ·rcases hk' with rfl | rfl | rfl
     ·exact absurd (.inl rfl) no
     ·exact absurd (.inr rfl) no
     ·exact ⟨e, .inr hk0⟩
    ·exact ⟨e, .inl hk0⟩
   have e3 : Vis cenv.scope y := e3
   rcases e3 with e3 | e3 | e3
   ·exact key _ e3 (.inl rfl)
   ·exact key _ e3 (.inr (.inl rfl))
   ·exact key _ e3 (.inr (.inr rfl))
  obtain ⟨m, hn, hl⟩ := I.loc
  have hvis : Vis X.env.scope y := (ok.free _ (PySem.mem_of_lookup hfr.1) rfl).elim (fun k => .inr (.inl k)) (fun k => .inr (.inr k))
  obtain ⟨w, r, q⟩ := hl i y av e1 e2 hvis
  refine ⟨w, r, .inr ⟨hfr.2, ?_⟩⟩
  obtain ⟨c, h1, h2⟩ := look hfr.1
  rcases q with ⟨k, _⟩ | ⟨_, c', e', z⟩
  ·have k : X.env.scope.names.lookup y = some .local := k
   rcases ok.free _ (PySem.mem_of_lookup hfr.1) rfl with k' | k' <;> rw [show X.env.scope.names.lookup y = _ from k'] at k <;> cases k
  ·rw [h2] at e'; cases e'
   exact ⟨c, h1, z.keeps kp⟩
 ·have e : cenv.cells.lookup y = some c := e
  rcases mem e with ⟨h1, _⟩ | ⟨_, z⟩
  ·obtain ⟨w, z⟩ := I.cell y c h1
   exact ⟨w, z.keeps kp⟩
  ·exact ⟨_, z⟩
 ·show H cenv.locals = none
  rw [hL]; exact I.hok.fresh (Nat.le_refl _)
 ·have e : cenv.cells.lookup y = some c := e
  rcases mem e with ⟨h1, _⟩ | ⟨h1, _⟩
  ·exact I.freeC y c h1
  ·exact I.hok.fresh (Nat.le_of_succ_le h1)
 ·exact absurd (show p ∈ ([] : List (Addr × Obj)) ++ [] from hp) (by simp)
theorem app_ok {E : Value → Shared → Prop} {D : Addr} {xs : List V} {y : V} {v : Value} {Q : Value → Shared → Prop} (I : Inv X pins σ H s) (hD : H D = some (.lst xs)) (hz : xs.length < sizeLine) (r : RelV y v)
  (h : ∀ s', Inv X pins σ (upd H D (.lst (xs ++ [y]))) s' → Q .none s') : wpAny (model X.prog X.w) X.A (call (.builtin "list.append") [.ref D, v]) Q E s := by
 obtain ⟨hz', its, n, ri, e⟩ := I.hok D _ hD
 have hl := ri.length
 refine append_at (hsz := by rw [List.size_toArray]; omega) e fun h' sb ho' => ?_
 refine h { s with heap := h' } (I.write (t' := s.toks) (by rw [hD]; trivial) (.inl rfl) (fun b u hb q => (sb.2 b hb).trans q) ⟨_, ho'⟩ ⟨by rw [List.length_append]; exact hz, its ++ [v], n + 1, ri.append (.cons r .nil), ?_⟩)
 rw [ho']
 simp
def PTs (X : Cx) (ifs : List Expr) (t : TT) : Prop :=
 ∀ (pins : List (Addr × Obj)) (s : Shared) (σ : St) (H : Hp) (Q : Bool → Hp → Prop), Inv X pins σ H s → t σ H Q →
  wpAny (model X.prog X.w) X.A (forIn ifs true fun c r => if r = true then do let ok ← isTrue c X.env (eval c X.env); pure (ForInStep.yield ok) else pure (ForInStep.yield r)) (TP X pins σ Q) X.xe s
def tYes : TT := fun _ H Q => Q true H
theorem pts_nil : PTs X [] tYes := fun _ _ _ H _ I h => wpAny_tests_nil ⟨H, I, h⟩
theorem pts_one {c : Expr} {t : TT} (h : PT X c t) : PTs X [c] t := fun pins s σ H Q I hw => wpAny_tests_one (h pins s σ H Q I hw)
end
theorem thnF {α : Type} {t : Sem α} {Q Q' : α → Shared → Prop} {M : Model} {A : Around} {E : Value → Shared → Prop} {s : Shared} (h : wpAny M A t Q (fun _ _ => False) s) (hQ : ∀ a s, Q a s → Q' a s) : wpAny M A t Q' E s := wpAny_mono h hQ fun _ _ z => False.elim z
theorem compLoop_any {prog : Program} {w : World} {A : Around} {R : Result → Shared → Prop} {s : Shared} {elt target iter : Expr} {ifs : List Expr} {scope : Scope} {pos : Pos} {it acc : Value} {env : Env} (I : Nat → Shared → Prop)
  (turn : ∀ n s, I n s → wpAny (model prog w) A (pyNext it) (fun r s₁ => match r with
   | none => R (.ok .next) s₁
   | some v => wpAny (model prog w) A (letOwnedTupleGo target it v) (fun _ s₁' => wpAny (model prog w) A (assign target env v) (fun _ s₂ =>
     wpAny (model prog w) A (forIn ifs true fun c r => if r = true then do let ok ← isTrue c env (eval c env); pure (ForInStep.yield ok) else pure (ForInStep.yield r)) (fun ok s₃ =>
      if ok = true then wpAny (model prog w) A (eval elt env) (fun x s₄ =>
       wpAny (model prog w) A (call (.builtin "list.append") [acc, x]) (fun _ s₅ => ∃ m, m < n ∧ I m s₅) (notedBy (model prog w) A env fun e s' => R (.error e) s') s₄) (notedBy (model prog w) A env fun e s' => R (.error e) s') s₃
      else ∃ m, m < n ∧ I m s₃) (notedBy (model prog w) A env fun e s' => R (.error e) s') s₂) (notedBy (model prog w) A env fun e s' => R (.error e) s') s₁') (notedBy (model prog w) A env fun e s' => R (.error e) s') s₁) (notedBy (model prog w) A env fun e s' => R (.error e) s') s)
  (n : Nat) (h : I n s) :
  codeAny (model prog w) A (.compLoop (.ListComp elt [⟨target, iter, ifs, 0⟩] scope pos) 0 it acc env) R s := by
 refine codeAny_loop rfl I (fun n s hI => ?_) n h
 show wpAny _ A ((compTurn (.ListComp elt [⟨target, iter, ifs, 0⟩] scope pos) 0 it acc env).onRaise (fun x => do noteFrame x env; theTreesLotGoes x)) _ _ s
 refine wpAny_noted ?_
 rw [compTurn_list]
 refine wpAny_bind (wpAny_standAt (wpAny_bind (wpAny_mono (turn n s hI) (fun r s₁ h₁ => ?_) fun _ _ h' => h')))
 cases r with
 | none => exact wpAny_pure h₁
 | some v =>
  refine wpAny_bind (wpAny_mono h₁ (fun _ s₁' h₁' => ?_) fun _ _ h' => h')
  refine wpAny_bind (wpAny_mono h₁' (fun _ s₂ h₂ => wpAny_bind (wpAny_mono h₂ (fun ok s₃ h₃ => ?_) fun _ _ h' => h')) fun _ _ h' => h')
  cases ok with
  | false => exact wpAny_pure ⟨rfl, h₃⟩
  | true =>
   exact wpAny_bind (wpAny_bind (wpAny_mono h₃ (fun x s₄ h₄ => wpAny_bind (wpAny_mono h₄ (fun _ s₅ h₅ => wpAny_pure (wpAny_pure ⟨rfl, h₅⟩)) fun _ _ h' => h')) fun _ _ h' => h'))
section
variable {X : Cx}
def tLc (wi : TI) (g : TG) (tt : TT) (te : TE) (vs : List Nat) : TE := fun σ H Q => wi σ H fun J H1 => ∀ D, H1 D = none → ∃ W : Nat → Nat → Hp → Prop, (∃ m, W 0 m (upd H1 D (.lst []))) ∧ ∀ i m H, W i m H →
 (J.stop i H ∧ Q (.ref D) H) ∨ (J.go i H ∧ ∃ Nx : Hp → Prop, (∀ H', Nx H' → ∃ m', m' < m ∧ W (i + 1) m' H') ∧ ∀ x H', J.yld i H x H' → g x (wipe σ vs) H' fun σ2 H2 => wipe σ2 vs = wipe σ vs ∧ tt σ2 H2 fun b H3 =>
  if b = true then te σ2 H3 fun y H4 => ∃ acc, H4 D = some (.lst acc) ∧ acc.length < sizeLine ∧ Nx (upd H4 D (.lst (acc ++ [y]))) else Nx H3)
theorem lc_core {pins : List (Addr × Obj)} {s : Shared} {σ : St} {H : Hp} {Q : VK} {elt tg iter : Expr} {ifs : List Expr} {scope : Scope} {own : List (Str × Nat)} {pos pos' : Pos} {wi : TI} {g : TG} {tt : TT} {te : TE} {use : Option (Value → Sem Unit)} {Qf : Value → Shared → Prop}
  (hc : X.calm = true) (hN : X.N.Nodup) (I : Inv X pins σ H s) (hi : PI X tg iter wi) (ok : BlkOk X.N X.env.scope scope own)
  (hg : ∀ (s : Shared) (H : Hp) (C : Addr) (cl : List (Str × Addr)) (fp : List Addr), PG (X.blk s H scope (compEnvC scope cl C X.env) fp) tg g) (ht : ∀ (s : Shared) (H : Hp) (C : Addr) (cl : List (Str × Addr)) (fp : List Addr), PTs (X.blk s H scope (compEnvC scope cl C X.env) fp) ifs tt)
  (he : ∀ (s : Shared) (H : Hp) (C : Addr) (cl : List (Str × Addr)) (fp : List Addr), PE (X.blk s H scope (compEnvC scope cl C X.env) fp) elt te) (hs : ∀ x, foldedSetIterable iter X.env x = pure x)
  (h : tLc wi g tt te (own.map (·.2)) σ H Q)
  (hRR : ∀ D C s' m H', Inv X pins σ H' s' → Q (.ref D) H' → s'.heap.Ns C m → FpOk X pins H' C → compPost (model X.prog X.w) X.A X.xe use Qf (.ref D) C (.ok .next) s') :
  wpAny (model X.prog X.w) X.A (comprehension (.ListComp elt [⟨tg, iter, ifs, 0⟩] scope pos) scope X.env pos' (newList []) false (eval iter X.env) use) Qf X.xe s := by
 have hfree : ∀ y ∈ scope.names, y.2 = .free → ∃ c, X.env.cells.lookup y.1 = some c := fun y hy e => by
  rcases ok.free y hy e with k | k
  ·exact I.ok.has _ (.inl k)
  ·exact I.ok.has _ (.inr k)
 refine wpAny_comprehension_free (use := use) rfl hs (closure_ok hfree) ok.kind (fun y hy e => by rw [ok.uniq y hy, e])
  (thn (hi pins s σ H _ I h) fun xv s1 hx => thn hx fun itv s2 h2 => ?_)
 obtain ⟨it, fp, tn, J, H2, e, I2, T, st2, f2, q⟩ := h2
 subst e
 refine wpAny_newObj_type (newEnv_comp ?_) (by show 0 ≤ sizeLine; decide)
 generalize hD : s2.heap.objs.size = D
 have hDn : H2 D = none := I2.hok.fresh (Nat.le_of_eq hD)
 obtain ⟨W, ⟨m0, w0⟩, turn⟩ := q D hDn
 generalize hs3 : ({ s2 with heap := s2.heap.push { cls := .type "list", data := .seq ([] : List Value).toArray } } : Shared) = s3
 have I3 : Inv X pins σ (upd H2 D (.lst [])) s3 := by
  rw [← hs3]
  refine I2.laid (t' := s2.toks) (fun b o e => Heap.get?_push_of_some _ e) (Nat.le_of_eq hD) ⟨Nat.zero_le _, [], 0, .nil, ?_⟩
  rw [← hD]
  exact Heap.get?_push_size _ rfl
 have h3 : s3.heap = s2.heap.push { cls := .type "list", data := .seq ([] : List Value).toArray } := by rw [← hs3]
 have sz : ∀ b ∈ fp, b < s2.heap.objs.size := fun b hb => by
  obtain ⟨o, e, _⟩ := T.obj _ _ st2 b hb
  exact Heap.lt_size e
 have f3 : ∀ b ∈ fp, FpOk X pins (upd H2 D (.lst [])) b ∧ b < s3.heap.objs.size := fun b hb => by
  have hlt := sz b hb
  refine ⟨⟨?_, (f2 b hb).2⟩, by rw [h3, Heap.size_push]; exact Nat.lt_succ_of_lt hlt⟩
  rw [upd_ne (by rw [← hD]; exact Nat.ne_of_lt hlt)]
  exact (f2 b hb).1
 have st3 : tn 0 s3.heap := T.keep _ _ _ st2 fun b _ o e => by rw [h3]; exact Heap.get?_push_of_some _ e
 have I4 := block_start I3 ok hN f3
 have pg := hg s3 (upd H2 D (.lst [])) s3.heap.objs.size (cellsFrom (s3.heap.objs.size + 1) scope.names (cloFrom X.env.cells scope.names [])) fp
 have pt := ht s3 (upd H2 D (.lst [])) s3.heap.objs.size (cellsFrom (s3.heap.objs.size + 1) scope.names (cloFrom X.env.cells scope.names [])) fp
 have pe := he s3 (upd H2 D (.lst [])) s3.heap.objs.size (cellsFrom (s3.heap.objs.size + 1) scope.names (cloFrom X.env.cells scope.names [])) fp
 show codeAny _ _ (.compStart (.ListComp elt [⟨tg, iter, ifs, 0⟩] scope pos) 0 (.ref it) (.ref D) (compEnvC scope (cellsFrom (s3.heap.objs.size + 1) scope.names (cloFrom X.env.cells scope.names [])) s3.heap.objs.size X.env)) (compPost (model X.prog X.w) X.A X.xe use Qf (.ref D) s3.heap.objs.size) { s3 with heap := pushCells (s3.heap.push { cls := .type "dict", data := .dict #[] }) scope.names }
 have nfp : ∀ b ∈ fp, (upd H2 D (.lst [])) b = none := fun b hb => (f3 b hb).1.1
 generalize hce : compEnvC scope (cellsFrom (s3.heap.objs.size + 1) scope.names (cloFrom X.env.cells scope.names [])) s3.heap.objs.size X.env = ce at I4 pg pt pe ⊢
 have cL : ce.locals = s3.heap.objs.size := by subst hce; rfl
 generalize hH3 : upd H2 D (.lst []) = H3 at I3 I4 pg pt pe w0 nfp f3
 generalize hs4 : ({ s3 with heap := pushCells (s3.heap.push { cls := .type "dict", data := .dict #[] }) scope.names } : Shared) = s4 at I4 ⊢
 have st4 : tn 0 s4.heap := T.keep _ _ _ st3 fun b _ o e => by rw [← hs4]; exact pushCells_keeps _ _ _ _ (Heap.get?_push_of_some _ e)
 have stat : ∀ {σ' : St} {H' : Hp} {s' : Shared}, Inv (X.blk s3 H3 scope ce fp) [] σ' H' s' → (∀ b ∈ fp, H' b = none) → ∀ b ∈ fp, FpOk (X.blk s3 H3 scope ce fp) [] H' b := fun {σ' H' s'} I' hn b hb =>
  ⟨hn b hb, (I'.ok.exf b hb).1, I'.ok.exfs b hb, .inl hb, fun x c e => (I'.ok.exf b hb).2 x c e, fun p hp => absurd (show p ∈ ([] : List (Addr × Obj)) ++ [] from hp) (by simp)⟩
 have loop : codeAny (model X.prog X.w) X.A (.compLoop (.ListComp elt [⟨tg, iter, ifs, 0⟩] scope pos) 0 (.ref it) (.ref D) ce) (compPost (model X.prog X.w) X.A X.xe use Qf (.ref D) s3.heap.objs.size) s4 := by
  refine compLoop_any (fun n s' => ∃ i H', Inv (X.blk s3 H3 scope ce fp) [] (wipe σ (own.map (·.2))) H' s' ∧ tn i s'.heap ∧ (∀ b ∈ fp, H' b = none) ∧ W i n H') ?_ m0 ⟨0, H3, I4, st4, nfp, w0⟩
  rintro n s5 ⟨i, H5, I5, st5, n5, w5⟩
  rcases turn i n H5 w5 with ⟨stop, qq⟩ | ⟨go, Nx, hNx, step⟩
  ·have td := T.done (X.blk s3 H3 scope ce fp) rfl rfl rfl hc i [] s5 _ H5 (fun _ _ => False) I5 (stat I5 n5) st5 stop
   refine thnF td fun r s6 ⟨hr, I6⟩ => ?_
   subst hr
   have I7 : Inv X pins σ H5 s6 := I3.call' (ch := fp) I6.os I6.base I6.hok I6.bare fun b hb => ⟨(f3 b hb).1.2.2.2.1, (f3 b hb).1.2.1, (f3 b hb).1.2.2.2.2.1, (f3 b hb).1.2.2.2.2.2⟩
   have nC : H5 s3.heap.objs.size = none := by
    have z : H5 ce.locals = none := I6.free
    rw [cL] at z
    exact z
   obtain ⟨m, hn, _⟩ := I6.loc
   have hn : s6.heap.Ns ce.locals m := hn
   rw [cL] at hn
   exact hRR D s3.heap.objs.size s6 m H5 I7 qq hn (I3.fpOk (Nat.le_refl _) nC)
  ·have ti := T.item (X.blk s3 H3 scope ce fp) rfl rfl rfl hc i [] s5 _ H5 (fun _ _ => False) I5 (stat I5 n5) st5 go
   refine thnF ti fun r s6 ⟨u, hr, h6⟩ => ?_
   subst hr
   refine thnF h6 fun _ s7 ⟨x, H7, I7, r7, y7, st7, n7⟩ => ?_
   have I7' := I7.pinned (stat I7 n7) (T.obj _ _ st7)
   refine thnF (pg _ s7 _ H7 x u _ I7' r7 (step x H7 y7)) fun _ s8 ⟨σ8, H8, I8, hw8, q8⟩ => ?_
   refine thnF (pt _ s8 σ8 H8 _ I8 q8) fun b s9 ⟨H9, I9, q9⟩ => ?_
   have fin : ∀ {s' : Shared} {H' : Hp}, Inv (X.blk s3 H3 scope ce fp) ([] ++ pinsAt fp s7.heap) σ8 H' s' → Nx H' → ∃ m, m < n ∧ ∃ i H', Inv (X.blk s3 H3 scope ce fp) [] (wipe σ (own.map (·.2))) H' s' ∧ tn i s'.heap ∧ (∀ b ∈ fp, H' b = none) ∧ W i m H' := fun {s' H'} I' nx => by
    obtain ⟨m', hm, w'⟩ := hNx H' nx
    have pin' : ∀ b ∈ fp, ∀ o, s7.heap.get? b = some o → s'.heap.get? b = some o ∧ H' b = none := fun b hb o e =>
     let z := I'.pin (b, o) (List.mem_append_right _ (List.mem_append_right _ (mem_pinsAt hb e)))
     ⟨z.1, z.2.1⟩
    have hl : (wipe σ (own.map (·.2))).length = σ8.length := by rw [← hw8, wipe_length]
    refine ⟨m', hm, i + 1, H', (I'.unpinned (pins := [])).weak hl (fun j v e => ?_), T.keep _ _ _ st7 fun b hb o e => (pin' b hb o e).1, fun b hb => ?_, w'⟩
    ·rw [← hw8] at e
     exact (wipe_some e).1
    ·obtain ⟨o, e, _⟩ := T.obj _ _ st7 b hb
     exact (pin' b hb o e).2
   cases b with
   | false =>
    simp only [Bool.false_eq_true, if_false] at q9 ⊢
    exact fin I9 q9
   | true =>
    simp only [if_true] at q9 ⊢
    refine thnF (pe _ s9 σ8 H9 _ I9 q9) fun z s10 ⟨yv, H10, I10, r10, acc, hD10, hz10, nx⟩ => ?_
    exact app_ok (X := X.blk s3 H3 scope ce fp) I10 hD10 hz10 r10 fun s11 I11 => fin I11 nx
 exact codeAny_compStart_list loop (T.self X.A 0 _ _ _ st4 loop)
theorem pe_lc {elt tg iter : Expr} {ifs : List Expr} {scope : Scope} {own : List (Str × Nat)} {pos : Pos} {wi : TI} {g : TG} {tt : TT} {te : TE} (hc : X.calm = true) (hN : X.N.Nodup) (hi : PI X tg iter wi) (ok : BlkOk X.N X.env.scope scope own)
  (hg : ∀ (s : Shared) (H : Hp) (C : Addr) (cl : List (Str × Addr)) (fp : List Addr), PG (X.blk s H scope (compEnvC scope cl C X.env) fp) tg g) (ht : ∀ (s : Shared) (H : Hp) (C : Addr) (cl : List (Str × Addr)) (fp : List Addr), PTs (X.blk s H scope (compEnvC scope cl C X.env) fp) ifs tt)
  (he : ∀ (s : Shared) (H : Hp) (C : Addr) (cl : List (Str × Addr)) (fp : List Addr), PE (X.blk s H scope (compEnvC scope cl C X.env) fp) elt te) (hs : ∀ x, foldedSetIterable iter X.env x = pure x := by intro _; rfl) :
  PE X (.ListComp elt [⟨tg, iter, ifs, 0⟩] scope pos) (tLc wi g tt te (own.map (·.2))) := by
 intro pins s σ H Q I h
 rw [eval_ListComp]
 refine lc_core hc hN I hi ok hg ht he hs h fun D C s' m H' I' q hn f => ⟨m, hn, fun h'' sb => ?_⟩
 obtain ⟨f0, f1, f2, f3, f4, f5⟩ := f
 exact ⟨.ref D, H', I'.turned (t' := s'.toks) (fun b o hb e => (sb.2 b hb).trans e) f0 f1 f3 f4 f5, rfl, q⟩
end
theorem lc_list {K : PySem.W.Frag} {a : Addr} {xs : List V} {g : TG} {tt : TT} {te : TE} {vs : List Nat} {σ : St} {H1 : Hp} {D : Addr} {Qd : Hp → Prop} (Pv : Nat → Hp → Prop) (h0 : Pv 0 (upd H1 D (.lst []))) (hl : ∀ i H, i ≤ xs.length → Pv i H → SqL K H a xs)
  (hs : ∀ i x H, xs[i]? = some x → Pv i H → g x (wipe σ vs) H fun σ2 H2 => wipe σ2 vs = wipe σ vs ∧ tt σ2 H2 fun b H3 =>
   if b = true then te σ2 H3 fun y H4 => ∃ acc, H4 D = some (.lst acc) ∧ acc.length < sizeLine ∧ Pv (i + 1) (upd H4 D (.lst (acc ++ [y]))) else Pv (i + 1) H3) (hd : ∀ H, Pv xs.length H → Qd H) :
  ∃ W : Nat → Nat → Hp → Prop, (∃ m, W 0 m (upd H1 D (.lst []))) ∧ ∀ i m H, W i m H →
   ((Itl K a).stop i H ∧ Qd H) ∨ ((Itl K a).go i H ∧ ∃ Nx : Hp → Prop, (∀ H', Nx H' → ∃ m', m' < m ∧ W (i + 1) m' H') ∧ ∀ x H', (Itl K a).yld i H x H' → g x (wipe σ vs) H' fun σ2 H2 => wipe σ2 vs = wipe σ vs ∧ tt σ2 H2 fun b H3 =>
    if b = true then te σ2 H3 fun y H4 => ∃ acc, H4 D = some (.lst acc) ∧ acc.length < sizeLine ∧ Nx (upd H4 D (.lst (acc ++ [y]))) else Nx H3) := by
 refine ⟨fun i m H => m = xs.length - i ∧ i ≤ xs.length ∧ Pv i H, ⟨xs.length, by simp, Nat.zero_le _, h0⟩, ?_⟩
 rintro i m H ⟨rfl, hi, p⟩
 have q := hl i H hi p
 by_cases hlt : i < xs.length
 ·refine .inr ⟨⟨xs, xs[i], q, by simp [hlt]⟩, Pv (i + 1), fun H' p' => ⟨xs.length - (i + 1), by omega, rfl, hlt, p'⟩, fun x H' y => ?_⟩
  obtain ⟨e, y⟩ := y
  subst e
  exact hs i x _ (y xs q) p
 ·have e : i = xs.length := by omega
  subst e
  exact .inl ⟨⟨xs, q, Nat.le_refl _⟩, hd H p⟩
end L2
namespace L2
open PySem PySem.Spec PyProof.Rows
section
variable {prog : Program} {w : World} {A : Around} {R : Result → Shared → Prop} {s : Shared} {elt t0 i0 t1 i1 : Expr} {ifs0 ifs1 : List Expr} {scope : Scope} {pos : Pos} {it acc : Value} {env : Env}
end
section
variable {X : Cx}
end
end L2
namespace L2
open PySem PySem.Spec PyProof.Rows
section
variable {κ : Type} [DecidableEq κ]
end
section
variable {P : Program} {w : World} {H : Hp} {h : Heap} {a : Addr}
end
section
variable {X : Cx} {pins : List (Addr × Obj)} {σ : St} {H : Hp} {s : Shared} {a : Addr} {y v : V} {u r : Value} {o : Option V} {A : Around} {E : Value → Shared → Prop}
end
section
variable {X : Cx} {pins : List (Addr × Obj)} {σ : St} {H : Hp} {s : Shared} {a : Addr} {kvs : List (Key × V)} {k : Key} {u : Value} {A : Around} {E : Value → Shared → Prop}
end
section
variable {X : Cx} {o i e value : Expr} {pos pos' tpos : Pos} {td ty tv : TE}
end
section
variable {X : Cx} {pos : Pos}
end
section
variable {X : Cx} {pins : List (Addr × Obj)} {σ : St} {H : Hp} {s : Shared} {a : Addr} {y d : V} {u r : Value} {o : Option V} {A : Around} {E : Value → Shared → Prop}
end
section
variable {X : Cx} {o e f : Expr} {apos cpos : Pos} {td ty tx : TE}
end
section
variable {X : Cx} {pins : List (Addr × Obj)} {σ : St} {H : Hp} {s : Shared} {a : Addr} {kvs : List (Key × V)} {A : Around} {E : Value → Shared → Prop}
end
section
variable {X : Cx} {pins : List (Addr × Obj)} {σ : St} {H : Hp} {s : Shared} {a : Addr} {y : V} {u : Value} {A : Around} {E : Value → Shared → Prop}
end
end L2
namespace L2
open PySem PySem.Spec PyProof.Rows
section
variable {prog : Program} {w : World} {A : Around} {E : Value → Shared → Prop}
end
section
variable {X : Cx}
end
end L2
namespace L2
open PySem PySem.Spec PyProof.Rows
theorem boot_reversed5 : bootBuiltins "reversed" = some (.type "reversed") := by decide +kernel
section
variable {X : Cx} {pins : List (Addr × Obj)} {σ : St} {H : Hp} {s : Shared} {h' : Heap}
end
section
variable {X : Cx}
theorem pi_one {tg : Expr} {pins : List (Addr × Obj)} {σ : St} {H : Hp} {s : Shared} {R : It → Hp → Prop} {J : It} {tn : Nat → Heap → Prop} {tk : Nat} (I : Inv X pins σ H s) (o : Obj)
  (T : Turn X.prog X.w X.K tg J [s.heap.objs.size] s.heap.objs.size tn) (st : tn 0 (s.heap.push o)) (q : R J H) : PIE X pins σ tg R (.ref s.heap.objs.size) { s with heap := s.heap.push o, toks := tk } := by
 refine ⟨s.heap.objs.size, [s.heap.objs.size], tn, J, H, rfl, I.kept fun b ob e => Heap.get?_push_of_some _ e, T, st, fun b hb => ?_, q⟩
 have e : b = s.heap.objs.size := by simpa using hb
 subst e
 exact I.fpOk (Nat.le_refl _) (I.hok.fresh (Nat.le_refl _))
end
def Itc (lo c : Int) (n : Nat) : It := ⟨fun i _ => i < n, fun i H x H' => H' = H ∧ x = .int (lo + (i : Nat) * c), fun i _ => n ≤ i⟩
theorem turn_rangeC {P : Program} {w : World} {K : PySem.W.Frag} {tg : Expr} (it : Addr) (lo c : Int) (n : Nat) : Turn P w K tg (Itc lo c n) [it] it (fun i h => IsRangeIter h it (lo + (i : Nat) * c) ((n : Int) - (i : Nat)) c) where
 mem := by simp
 obj := fun i h st b hb => by
  have e : b = it := by simpa using hb
  subst e
  exact ⟨_, st, fun v z => nomatch z⟩
 keep := fun i h h' st k => k it (by simp) _ st
 item := by
  intro X hP hw hK hc i pins s σ H E I hf st hg
  subst hP hw hK
  obtain ⟨f0, f1, f2, f3, f4, f5⟩ := hf it (by simp)
  have W := Walks.range (prog := X.prog) (w := X.w) (I.ok.hd hc) it lo c n
  refine W.item i s _ _ hg st fun v h' tk hv st' kk => ?_
  obtain ⟨t, rfl⟩ := hv
  have I1 : Inv X pins σ H { s with heap := h', toks := tk } := I.turned (fun b o hb e => kk b o (by simpa using hb) e) f0 f1 f3 f4 f5
  exact ⟨_, rfl, go_of (s := { s with heap := h', toks := tk }) (n := "range_iterator") st' rfl rfl (by decide) ⟨.int (lo + (i : Nat) * c), H, I1, ⟨t, rfl⟩, ⟨rfl, rfl⟩, st', fun b hb => (hf b hb).1⟩⟩
 done := by
  intro X hP hw hK hc i pins s σ H E I hf st hg
  subst hP hw hK
  obtain ⟨f0, f1, f2, f3, f4, f5⟩ := hf it (by simp)
  exact wpAny_pyNext_range_end (I.ok.hd hc) st (by have : n ≤ i := hg; omega) fun h' eb => ⟨rfl, I.turned (t' := s.toks) (fun b o hb e => eb b o hb e) f0 f1 f3 f4 f5⟩
 self := fun A i s Q E st h => wpAny_pyIter_rangeiter st h
def RgC (i j c : Int) (n : Nat) : Prop := c ≠ 0 ∧ c.natAbs < 1073741824 ∧ Builtin.Range.small i j c = true ∧ Builtin.Range.rangeSize i j c = n
theorem RgC.neg {i j : Int} (ha : -(2 ^ 62) ≤ i) (ha' : i < 2 ^ 62) (hb : -(2 ^ 62) ≤ j) (hb' : j < 2 ^ 62) : RgC i j (-1) (i - j).toNat :=
 ⟨by decide, by decide, PySem.W.small_down ha ha' hb hb', PySem.W.rangeSize_downNat i j⟩
def iRng3 (ta : TA) : TI := fun σ H R => ta σ H fun vs H1 => ∃ (i j c : Int) (n : Nat), vs = [.int i, .int j, .int c] ∧ RgC i j c n ∧ R (Itc i c n) H1
section
variable {X : Cx} {tg : Expr}
theorem pi_range3 {a b c : Expr} {ta : TA} {p pos : Pos} (hg : Gl X "range") (hm : X.mg "range" = none) (ha : PA X [a, b, c] ta)
  (hs : starEach [a, b, c] X.env = (false, eval a X.env) :: starEach [b, c] X.env := by rfl) (hpl : (backTo pos (starEach [b, c] X.env)).any (·.1) = false := by rfl) :
  PI X tg (.Call (.Name "range" p) [a, b, c] [] pos) (iRng3 ta) := by
 intro pins s σ H R I h
 refine Call_ (ld_blt I hg hm boot_range (PyProof.Rows.callWith_type1 (thn (ha pos pins s σ H _ I h) fun us s1 ⟨vs, H1, I1, r1, q1⟩ => ?_) hs hpl))
 obtain ⟨i, j, k, n, e, ⟨c0, c1, c2, c3⟩, q⟩ := q1
 subst e
 cases r1 with
 | cons r rr =>
  cases rr with
  | cons r' rr =>
   cases rr with
   | cons r'' rr =>
    cases rr
    obtain ⟨t, rfl⟩ := r
    obtain ⟨t', rfl⟩ := r'
    obtain ⟨t'', rfl⟩ := r''
    refine call_range_3 c0 ?_ (.inl (PyProof.noPylong_small c1))
    refine wpAny_pyIter_range (IsRange.new ..) c2 ?_
    have I2 : Inv X pins σ H1 { s1 with heap := s1.heap.push { cls := .type "range", data := .fields #[.int i t, .int j t', .int k t''] } } := I1.kept (t' := s1.toks) fun b o e => Heap.get?_push_of_some _ e
    refine pi_one (tk := s1.toks) I2 _ (turn_rangeC _ i k n) ?_ q
    have e1 : i + ((0 : Nat) : Int) * k = i := by simp
    have e2 : (n : Int) - ((0 : Nat) : Int) = Builtin.Range.rangeSize i j k := by rw [c3]; simp
    show IsRangeIter _ _ (i + ((0 : Nat) : Int) * k) ((n : Int) - ((0 : Nat) : Int)) k
    rw [e1, e2]
    exact Heap.get?_push_size _ rfl
end
theorem for_rangeC {lo c : Int} {n : Nat} {g : TG} {tb : TS} {D : Ends} {σ : St} {H : Hp} (Pv : Nat → St → Hp → Prop) (h0 : Pv 0 σ H)
  (hs : ∀ i σ H, i < n → Pv i σ H → g (.int (lo + (i : Nat) * c)) σ H fun σ2 H2 => tb { D with nx := Pv (i + 1), ct := Pv (i + 1), bk := D.nx } σ2 H2) (hd : ∀ σ H, Pv n σ H → D.nx σ H) :
  ∃ W : Nat → Nat → St → Hp → Prop, (∃ m, W 0 m σ H) ∧ ∀ i m σ H, W i m σ H →
   ((Itc lo c n).stop i H ∧ D.nx σ H) ∨ ((Itc lo c n).go i H ∧ ∃ N : St → Hp → Prop, (∀ σ' H', N σ' H' → ∃ m', m' < m ∧ W (i + 1) m' σ' H') ∧ ∀ x H', (Itc lo c n).yld i H x H' → g x σ H' fun σ2 H2 => tb { D with nx := N, ct := N, bk := D.nx } σ2 H2) := by
 refine ⟨fun i m σ H => m = n - i ∧ i ≤ n ∧ Pv i σ H, ⟨n, by simp, Nat.zero_le _, h0⟩, ?_⟩
 rintro i m σ H ⟨rfl, hi, p⟩
 by_cases hlt : i < n
 ·refine .inr ⟨hlt, Pv (i + 1), fun σ' H' p' => ⟨n - (i + 1), by omega, rfl, hlt, p'⟩, fun x H' y => ?_⟩
  obtain ⟨e, y⟩ := y
  subst e y
  exact hs i σ _ hlt p
 ·have e : i = n := by omega
  subst e
  exact .inl ⟨Nat.le_refl _, hd σ H p⟩
def Itv (K : PySem.W.Frag) (a : Addr) (n : Nat) : It :=
 ⟨fun i H => i < n ∧ ∃ (xs : List V) (x : V), SqL K H a xs ∧ xs[n - 1 - i]? = some x, fun i H x H' => H' = H ∧ ∀ xs, SqL K H a xs → xs[n - 1 - i]? = some x, fun i _ => n ≤ i⟩
theorem turn_rev {P : Program} {w : World} {K : PySem.W.Frag} {tg : Expr} (a it : Addr) (n : Nat) : Turn P w K tg (Itv K a n) [it] it (fun i h => i ≤ n ∧ h.IsRevIter it a ((n : Int) - 1 - (i : Nat))) where
 mem := by simp
 obj := fun i h st b hb => by
  have e : b = it := by simpa using hb
  subst e
  obtain ⟨_, o, e, c, d⟩ := st
  exact ⟨o, e, fun v z => by rw [d] at z; cases z⟩
 keep := fun i h h' st k => ⟨st.1, st.2.at fun o e => k it (by simp) o e⟩
 item := by
  intro X hP hw hK hc i pins s σ H E I hf st hg
  subst hP hw hK
  obtain ⟨hin, xs, x, hq, hx⟩ := hg
  obtain ⟨its, rv, p, hz⟩ := I.list hq
  obtain ⟨u, hu, ru⟩ := rv.get hx
  obtain ⟨f0, f1, f2, f3, f4, f5⟩ := hf it (by simp)
  obtain ⟨_, hit⟩ := st
  have e1 : (n : Int) - 1 - ((i : Nat) : Int) = ((n - 1 - i : Nat) : Int) := by omega
  rw [e1] at hit
  refine wpAny_pyNext_rev_item hit p.isList (x := u) (by simpa using hu) fun h' st' sb => ?_
  have e2 : ((n - 1 - i : Nat) : Int) - 1 = (n : Int) - 1 - ((i + 1 : Nat) : Int) := by omega
  rw [e2] at st'
  have I1 : Inv X pins σ H { s with heap := h' } := I.turned (t' := s.toks) (fun b o hb e => (sb.2 b hb).trans e) f0 f1 f3 f4 f5
  obtain ⟨o, e, c, d⟩ := id st'
  exact ⟨u, rfl, go_of (s := { s with heap := h' }) e c d (by decide) ⟨x, H, I1, ru, ⟨rfl, fun ys hy => by rw [I.list_inj hy hq]; exact hx⟩, ⟨hin, st'⟩, fun b hb => (hf b hb).1⟩⟩
 done := by
  intro X hP hw hK hc i pins s σ H E I hf st hg
  subst hP hw hK
  obtain ⟨f0, f1, f2, f3, f4, f5⟩ := hf it (by simp)
  obtain ⟨hin, hit⟩ := st
  have hge : n ≤ i := hg
  have e1 : (n : Int) - 1 - ((i : Nat) : Int) = -1 := by omega
  rw [e1] at hit
  exact wpAny_pyNext_rev_end (I.ok.hd hc) hit fun h' eb => ⟨rfl, I.turned (t' := s.toks) (fun b o hb e => eb b o hb e) f0 f1 f3 f4 f5⟩
 self := fun A i s Q E st h => wpAny_pyIter_revIter st.2 h
def iRev (K : PySem.W.Frag) (ta : TA) : TI := fun σ H R => ta σ H fun vs H1 => ∃ (a : Addr) (xs : List V), vs = [.ref a] ∧ SqL K H1 a xs ∧ R (Itv K a xs.length) H1
section
variable {X : Cx} {tg : Expr}
theorem pi_reversed {e : Expr} {ta : TA} {p pos : Pos} (hg : Gl X "reversed") (hm : X.mg "reversed" = none) (ha : PA X [e] ta) (hs : starEach [e] X.env = [(false, eval e X.env)] := by rfl) : PI X tg (.Call (.Name "reversed" p) [e] [] pos) (iRev X.K ta) := by
 intro pins s σ H R I h
 refine Call_ (ld_blt I hg hm boot_reversed5 (PyProof.Rows.callWith_type1 (thn (ha pos pins s σ H _ I h) fun us s1 ⟨vs, H1, I1, r1, q1⟩ => ?_) hs rfl))
 obtain ⟨a, xs, e, hq, q⟩ := q1
 subst e
 cases r1 with
 | cons r rr =>
  cases rr
  cases r
  obtain ⟨its, rv, p', hz⟩ := I1.list hq
  have hl := rv.length
  have e1 : ((its.toArray.size : Nat) : Int) - 1 = (xs.length : Int) - 1 - ((0 : Nat) : Int) := by simp only [List.size_toArray]; omega
  refine call_reversed_list p'.isList (wpAny_pyIter_revIter (l := a) (i := ((its.toArray.size : Nat) : Int) - 1) ⟨_, Heap.get?_push_size _ rfl, rfl, rfl⟩ ?_)
  refine pi_one (tk := s1.toks) I1 _ (turn_rev a _ xs.length) ⟨Nat.zero_le _, ?_⟩ q
  rw [← e1]
  exact ⟨_, Heap.get?_push_size _ rfl, rfl, rfl⟩
end
section
variable {prog : Program} {w : World} {A : Around} {E : Value → Shared → Prop} {s : Shared}
end
theorem paired_get {α β : Type} {G : α → β → Prop} {l₁ : List α} {l₂ : List β} (h : Paired G l₁ l₂) : ∀ {i : Nat} {a : α}, l₁[i]? = some a → ∃ b, l₂[i]? = some b ∧ G a b := by
 induction h with
 | nil => intro i a e; simp at e
 | @cons a b l₁ l₂ r t ih =>
  intro i a' e
  cases i with
  | zero =>
   simp only [List.getElem?_cons_zero, Option.some.injEq] at e
   subst e
   exact ⟨b, rfl, r⟩
  | succ j =>
   simp only [List.getElem?_cons_succ] at e ⊢
   exact ih e
section
variable {X : Cx} {pins : List (Addr × Obj)} {σ : St} {H : Hp} {s : Shared} {d : Addr} {o : Obj}
end
section
variable {P : Program} {w : World} {K : PySem.W.Frag} {tg : Expr} {d : Addr} {o : Obj} {es : Array DictEntry} {ep : Nat}
end
section
variable {X : Cx} {tg e : Expr} {td : TE} {apos cpos : Pos}
end
end L2
section
namespace Bits
open PySem PyProof.Rows
end Bits
end
section
namespace TL
open PySem PySem.Builtin PySem.Builtin.Str PySem.StrLaws
end TL
end
namespace L2
open PySem PySem.Spec PyProof.Rows
section
variable {X : Cx} {pins : List (Addr × Obj)} {σ : St} {H : Hp} {s : Shared} {Q : VK}
end
section
variable {X : Cx}
end
section
variable {X : Cx} {o e : Expr} {to te : TE}
end
end L2
namespace L2
open PySem PySem.Spec PyProof.Rows
section
variable {X : Cx}
end
end L2
namespace Att
open PySem PySem.W PySem.Calls PyProof.Rows
section
variable {prog : Program} {w : World} {A : Around} {E : Value → Shared → Prop} {s : Shared} {K : Frag}
end
end Att
namespace L2
open PySem PySem.Spec PyProof.Rows
end L2
namespace L2
open PySem PySem.Spec PyProof.Rows
end L2
namespace L2
open PySem PySem.Spec PyProof.Rows
def inClass (s : Stmt) (j : Nat) : Stmt := match s with
 | .ClassDef _ _ _ body _ _ _ _ _ _ _ => body.getD j (.Pass ⟨0, 0, 0, 0⟩)
 | _ => .Pass ⟨0, 0, 0, 0⟩
def defArgs (s : Stmt) : Arguments := match s with
 | .FunctionDef _ a _ _ _ _ _ _ _ _ => a
 | _ => { posonlyargs := [], args := [], vararg := none, kwonlyargs := [], kw_defaults := [], kwarg := none, defaults := [] }
def defBody (s : Stmt) : List Stmt := match s with
 | .FunctionDef _ _ b _ _ _ _ _ _ _ => b
 | _ => []
def defScope (s : Stmt) : Scope := match s with
 | .FunctionDef _ _ _ _ _ _ sc _ _ _ => sc
 | _ => { kind := .function, names := [], isGenerator := false, isCoroutine := false }
abbrev CX0 : CXT := fun _ _ _ _ _ _ => False
abbrev E0 : XK := fun _ _ _ => False
theorem pass0 {X : Cx} : Passes CX0 X E0 := fun _ _ _ _ _ _ _ h => h.elim
structure Fun (K : PySem.W.Frag) (x qual : Str) (st : Stmt) (f : Addr) (fd : FuncData) : Prop where
 ex : ∃ (oc : Value) (od : Option Addr) (kV doc pm : Value) (an : Option Addr) (cdv ct : Value) (osl : Array (Option Value)),
  fd = PySem.W.fnOf x qual (defArgs st) (defBody st) (defScope st) .none kV doc pm an cdv ct ∧ K.lookup f = some ⟨oc, od, .func fd, osl⟩ ∧ PySem.W.codeIn K cdv qual = true
 kp : PySem.W.keepIn K (.ref f) = true
section
variable {P : Program} {w : World} {K : PySem.W.Frag} {mg : Str → Option Value} {base : Heap}
theorem Fun.ok {x qual : Str} {st : Stmt} {f : Addr} {fd : FuncData} {N ps : List Str} {k : Nat} {sp : Sp} (F : Fun K x qual st f fd) (S : FnScope N ps (defScope st)) (len : ∀ vs H Q E, sp vs H Q E → vs.length = ps.length)
  (hbody : ∀ (cdv : Value) (A : Around) (outer : List Env) (s : Shared) (H : Hp) (vs : List V) (Q : VK) (E : XK), Room k (A.deeper (envOfC qual (defScope st) s.heap.objs.size f cdv)) → sp vs H Q E →
   ∃ t, PSs (cxOf CX0 P w K mg base N qual (defScope st) f cdv A outer s H E).nox (defBody st) t ∧ t { nx := fun _ H' => Q .non H', rt := Q } (start N vs) H) : FnOk P w K mg base CX0 (k + 1) f fd ps sp := by
 obtain ⟨oc, od, kV, doc, pm, an, cdv, ct, osl, rfl, lk, hcd⟩ := F.ex
 refine fn_of lk hcd S len fun A outer s H vs Q E hr hsp => ?_
 obtain ⟨t, h, q⟩ := hbody cdv A outer s H vs Q E hr hsp
 exact ⟨t, h.nox, q⟩
theorem Fun.binds {x qual : Str} {st : Stmt} {f : Addr} {fd : FuncData} {ps : List Str} (F : Fun K x qual st f fd)
  (h : ∀ (kV doc pm : Value) (an : Option Addr) (cdv ct : Value) (us : List Value), us.length = ps.length → bindArgs (PySem.W.fnOf x qual (defArgs st) (defBody st) (defScope st) .none kV doc pm an cdv ct) ⟨us, []⟩ = pure (ps.zip us)) : Binds K fd ps [] := by
 obtain ⟨oc, od, kV, doc, pm, an, cdv, ct, osl, rfl, lk, hcd⟩ := F.ex
 exact .all (h kV doc pm an cdv ct)
theorem fun_mk {x qual : Str} {st : Stmt} {f : Addr} {oc : Value} {od an : Option Addr} {osl : Array (Option Value)} {kV doc pm cdv ct : Value} (l : K.lookup f = some ⟨oc, od, .func (PySem.W.fnOf x qual (defArgs st) (defBody st) (defScope st) .none kV doc pm an cdv ct), osl⟩)
  (c : PySem.W.codeIn K cdv qual = true) (k : PySem.W.keepIn K (.ref f) = true) : Fun K x qual st f (PySem.W.fnOf x qual (defArgs st) (defBody st) (defScope st) .none kV doc pm an cdv ct) := ⟨⟨oc, od, kV, doc, pm, an, cdv, ct, osl, rfl, l, c⟩, k⟩
end
section
variable {X : Cx}
theorem pv (i : Nat) {x : Str} {pos : Pos} (hN : X.N[i]? = some x := by rfl) (hv : Vis X.env.scope x := by first | exact Or.inl rfl | exact Or.inr (Or.inl rfl) | exact Or.inr (Or.inr rfl)) (hd : (x == ("__debug__" : Str)) = false := by decide)
  (hcd : (x == ("__classdict__" : Str)) = false := by decide) : PE X (.Name x pos) (tVar i) := pe_var hN hv hd hcd
end
theorem iteF {A B : Prop} (h : B) : if false = true then A else B := by
 rw [if_neg Bool.false_ne_true]
 exact h
theorem iteT {A B : Prop} (h : A) : if true = true then A else B := by
 rw [if_pos rfl]
 exact h
theorem ite2 {c A B : Prop} [Decidable c] (h1 : c → A) (h2 : ¬ c → B) : if c then A else B := by
 by_cases h : c
 ·rw [if_pos h]
  exact h1 h
 ·rw [if_neg h]
  exact h2 h
theorem iteNS {c A B : Prop} [Decidable c] (hc : c) (h : B) : if (!decide c) = true then A else B := by
 rw [decide_eq_true hc]
 exact iteF h
def Same (H H' : Hp) : Prop := ∀ b o, H b = some o → H' b = some o
theorem Same.refl (H : Hp) : Same H H := fun _ _ h => h
theorem Same.trans {H H1 H2 : Hp} (a : Same H H1) (b : Same H1 H2) : Same H H2 := fun c o h => b c o (a c o h)
theorem Same.free {H H' : Hp} (e : Same H H') {l : Addr} (h : H' l = Option.none) : H l = Option.none := by
 cases q : H l with
 | none => rfl
 | some o =>
  rw [e l o q] at h
  cases h
theorem Same.seq {K : PySem.W.Frag} {H H' : Hp} {a : Addr} {xs : List V} (e : Same H H') (h : SqL K H a xs) : SqL K H' a xs := by
 rcases h with (h | ⟨o, h⟩) | h
 ·exact .inl (.inl (e _ _ h))
 ·exact .inl (.inr ⟨o, e _ _ h⟩)
 ·exact .inr h
section
variable {κ : Type} [DecidableEq κ]
end
theorem at_of {xs : List V} {z : Int} {j : Nat} {v : V} (e : z = (j : Int)) (h : xs[j]? = some v) : atI xs z = some v := by
 rw [e]
 exact atI_nat h
end L2
section
set_option Elab.async false
set_option linter.all false
set_option maxRecDepth 100000
set_option maxHeartbeats 2000000
namespace L2
open PySem PySem.Spec PyProof.Rows
open PySem.W (WData Codec OpenSpec Well WellAll ReadsW ReadsAllW)
mutual
/-- x stands for the datum d, lists and tuples all the way -/
inductive Dw (K : PySem.W.Frag) (H : Hp) : V → WData → Prop
 | non : Dw K H .non .none
 | bl (b : Bool) : Dw K H (.bl b) (.bool b)
 | int (i : Int) : Dw K H (.int i) (.int i)
 | str (x : Str) : Dw K H (.str x) (.str x)
 | byt (b : Array UInt8) : Dw K H (.byt b) (.bytes b.toList)
 | lst {a : Addr} {xs : List V} {ds : List WData} : SqL K H a xs → DwAll K H xs ds → Dw K H (.ref a) (.list ds)
 | tup {a : Addr} {xs : List V} {ds : List WData} : SqT K H a xs → DwAll K H xs ds → Dw K H (.ref a) (.tuple ds)
inductive DwAll (K : PySem.W.Frag) (H : Hp) : List V → List WData → Prop
 | nil : DwAll K H [] []
 | cons {v : V} {vs : List V} {d : WData} {ds : List WData} : Dw K H v d → DwAll K H vs ds → DwAll K H (v :: vs) (d :: ds)
end
theorem dw_ints {K : PySem.W.Frag} {H : Hp} : ∀ ns : List Int, DwAll K H (ns.map V.int) (ns.map WData.int)
 | [] => .nil
 | n :: r => .cons (.int n) (dw_ints r)
theorem ints_dw {K : PySem.W.Frag} {H : Hp} : ∀ (ns : List Int) (xs : List V), DwAll K H xs (ns.map WData.int) → xs = ns.map V.int
 | [], xs, h => by
  cases h
  rfl
 | n :: r, xs, h => by
  cases h with
  | cons h1 h2 =>
   cases h1
   rw [ints_dw r _ h2] <;> rfl
section
variable {P : Program} {w : World} {K : PySem.W.Frag} {H : Hp} {h : Heap} {R : PySem.W.WRecords} {cl : Str → Option Addr}
theorem sqL_at {a : Addr} {xs : List V} (hok : HOk P w H h) (KX : K.In h) (q : SqL K H a xs) : ∃ (its : List Value) (o : Obj) (n : Nat), Vals xs its ∧ h.get? a = some o ∧ o.cls = .type "list" ∧ o.data = .seq its.toArray n := by
 rcases q with q | ⟨o, its, n, e, hc, _, hd, _, hv⟩
 ·obtain ⟨_, its, n, hv, e⟩ := (show ObjOk P w H h a (.lst xs) from q.ok hok)
  exact ⟨its, _, n, hv, e, rfl, rfl⟩
 ·exact ⟨its.toList, o, n, hv, KX _ _ e, hc, by simp [hd]⟩
theorem sqT_at {a : Addr} {xs : List V} (hok : HOk P w H h) (KX : K.In h) (q : SqT K H a xs) : ∃ (its : List Value) (o : Obj) (n : Nat), Vals xs its ∧ h.get? a = some o ∧ o.cls = .type "tuple" ∧ o.data = .seq its.toArray n := by
 rcases q with q | ⟨o, its, n, e, hc, hd, _, hv⟩
 ·obtain ⟨_, its, hv, o, e, hc, n, hd⟩ := (show ObjOk P w H h a (.tup xs) from q.ok hok)
  exact ⟨its, o, n, hv, e, hc, hd⟩
 ·exact ⟨its.toList, o, n, hv, KX _ _ e, hc, by simp [hd]⟩
mutual
theorem Dw.reads (hok : HOk P w H h) (KX : K.In h) : ∀ (d : WData) (v : V) (u : Value), Dw K H v d → RelV v u → ∃ as, ReadsW R cl h u d as
 | .none, _, _, x, r => by
  cases x
  cases r
  exact ⟨_, ReadsW.none⟩
 | .bool b, _, _, x, r => by
  cases x
  cases r
  exact ⟨_, ReadsW.bool b⟩
 | .int i, _, _, x, r => by
  cases x
  obtain ⟨t, rfl⟩ := r
  exact ⟨_, ReadsW.int i t⟩
 | .str s, _, _, x, r => by
  cases x
  obtain ⟨t, rfl⟩ := r
  exact ⟨_, ReadsW.str s t⟩
 | .bytes b, _, _, x, r => by
  cases x
  obtain ⟨t, rfl⟩ := r
  exact ⟨_, ReadsW.bytes _ t⟩
 | .list ds, _, _, x, r => by
  cases x with
  | lst hs ha =>
   cases r
   obtain ⟨its, o, n, rv, ho, hc, hd⟩ := sqL_at hok KX hs
   obtain ⟨as, hr⟩ := Dw.readsAll hok KX ds _ its ha rv
   exact ⟨_, ReadsW.list ho hc hd hr⟩
 | .tuple ds, _, _, x, r => by
  cases x with
  | tup hs ha =>
   cases r
   obtain ⟨its, o, n, rv, ho, hc, hd⟩ := sqT_at hok KX hs
   obtain ⟨as, hr⟩ := Dw.readsAll hok KX ds _ its ha rv
   exact ⟨_, ReadsW.tuple ho hc hd hr⟩
 | .float _, _, _, x, _ => by cases x
 | .dict _, _, _, x, _ => by cases x
 | .bytearray _, _, _, x, _ => by cases x
 | .set _, _, _, x, _ => by cases x
 | .frozenset _, _, _, x, _ => by cases x
 | .obj _ _, _, _, x, _ => by cases x
theorem Dw.readsAll (hok : HOk P w H h) (KX : K.In h) : ∀ (ds : List WData) (vs : List V) (us : List Value), DwAll K H vs ds → Vals vs us → ∃ as, ReadsAllW R cl h us ds as
 | [], _, _, x, r => by
  cases x
  cases r
  exact ⟨_, ReadsAllW.nil⟩
 | d :: ds, _, _, x, r => by
  cases x with
  | cons h1 h2 =>
   cases r with
   | cons r1 r2 =>
    obtain ⟨as, q1⟩ := Dw.reads hok KX d _ _ h1 r1
    obtain ⟨bs, q2⟩ := Dw.readsAll hok KX ds _ _ h2 r2
    exact ⟨_, ReadsAllW.cons q1 q2⟩
end
end
mutual
/-- data that a codec tells -/
def plW : WData → Bool
 | .none => true
 | .bool _ => true
 | .int _ => true
 | .str _ => true
 | .bytes _ => true
 | .list xs => plWs xs
 | .tuple xs => plWs xs
 | _ => false
def plWs : List WData → Bool
 | [] => true
 | x :: r => plW x && plWs r
end
theorem plWs_map {α : Type} {f : α → WData} (h : ∀ a, plW (f a) = true) : ∀ l : List α, plWs (l.map f) = true
 | [] => rfl
 | x :: r => by
  show (plW (f x) && plWs (r.map f)) = true
  rw [h x, plWs_map h r] <;> rfl
theorem pl_enc : ∀ (c : Codec) (a : c.denote), plW (c.enc a) = true
 | .unit, _ => rfl
 | .bool, _ => rfl
 | .int _ _, _ => rfl
 | .nat _ _, _ => rfl
 | .u8, _ => rfl
 | .bytes _ _, _ => rfl
 | .text _ _ _ _, _ => rfl
 | .list _ _ c, a => plWs_map (fun x => pl_enc c x) a
 | .pair c d, a => by
  show (plW (c.enc a.1) && (plW (d.enc a.2) && true)) = true
  rw [pl_enc c a.1, pl_enc d a.2] <;> rfl
 | .triple c d e, a => by
  show (plW (c.enc a.1) && (plW (d.enc a.2.1) && (plW (e.enc a.2.2) && true))) = true
  rw [pl_enc c a.1, pl_enc d a.2.1, pl_enc e a.2.2] <;> rfl
 | .option c, none => rfl
 | .option c, some x => pl_enc c x
theorem pl_encAll : ∀ (cs : List Codec) (a : Codec.denoteAll cs), plWs (Codec.encAll cs a) = true
 | [], _ => rfl
 | c :: cs, a => by
  show (plW (c.enc a.1) && plWs (Codec.encAll cs a.2)) = true
  rw [pl_enc c a.1, pl_encAll cs a.2] <;> rfl
theorem weight_mem : ∀ {xs : List WData} {d : WData}, d ∈ xs → d.weight ≤ WData.weightAll xs
 | [], d, h => absurd h (by simp)
 | x :: r, d, h => by
  show d.weight ≤ x.weight + 1 + WData.weightAll r
  rcases List.mem_cons.mp h with e | m
  ·rw [e]
   omega
  ·have z := weight_mem m
   omega
def toV : Value → V
 | .none => .non
 | .bool b => .bl b
 | .int i _ => .int i
 | .str x _ => .str x
 | .bytes b _ => .byt b
 | .ref a => .ref a
 | _ => .non
def OkU (A : List Addr) : Value → Prop
 | .none => True
 | .bool _ => True
 | .int _ _ => True
 | .str _ _ => True
 | .bytes _ _ => True
 | .ref a => a ∈ A
 | _ => False
theorem OkU.mono {A B : List Addr} (h : ∀ a ∈ A, a ∈ B) : ∀ {u : Value}, OkU A u → OkU B u := fun {u} x => by
 cases u with
 | ref a => exact h a x
 | none => trivial
 | bool b => trivial
 | int i t => trivial
 | str s t => trivial
 | bytes b t => trivial
 | _ => exact False.elim x
theorem relV_toV {A : List Addr} {u : Value} (x : OkU A u) : RelV (toV u) u := by
 cases u with
 | ref a => rfl
 | none => rfl
 | bool b => rfl
 | int i t => exact ⟨t, rfl⟩
 | str s t => exact ⟨t, rfl⟩
 | bytes b t => exact ⟨t, rfl⟩
 | _ => exact False.elim x
theorem vals_toV {A : List Addr} : ∀ {vs : List Value}, (∀ u ∈ vs, OkU A u) → Vals (vs.map toV) vs
 | [], _ => .nil
 | u :: r, h => .cons (relV_toV (h u (List.mem_cons_self ..))) (vals_toV fun x hx => h x (List.mem_cons_of_mem _ hx))
def ArgOb (h : Heap) (A : List Addr) (a : Addr) : Prop := ∃ vs : List Value, vs.length ≤ sizeLine ∧ (∀ u ∈ vs, OkU A u) ∧
 (h.get? a = some { cls := .type "list", data := .seq vs.toArray } ∨ h.get? a = some { cls := .type "tuple", data := .seq vs.toArray })
theorem ArgOb.mono {h : Heap} {A B : List Addr} {a : Addr} (k : ∀ a ∈ A, a ∈ B) (x : ArgOb h A a) : ArgOb h B a := by
 obtain ⟨vs, h1, h2, h3⟩ := x
 exact ⟨vs, h1, fun u hu => (h2 u hu).mono k, h3⟩
theorem wellAll_len {P : Params} {h : Heap} : ∀ {vs : List Value} {ds : List WData}, WellAll P h vs ds → vs.length = ds.length
 | _, _, .nil => rfl
 | _, _, .cons _ b => by
  show _ + 1 = _ + 1
  rw [wellAll_len b]
theorem well_list {P : Params} {h : Heap} {v : Value} {ds : List WData} (x : Well P h v (.list ds)) : ∃ (a : Addr) (vs : List Value), v = .ref a ∧ h.get? a = some { cls := .type "list", data := .seq vs.toArray } ∧ WellAll P h vs ds := by
 cases x with
 | list ho hall => exact ⟨_, _, rfl, ho, hall⟩
theorem well_tuple {P : Params} {h : Heap} {v : Value} {ds : List WData} (x : Well P h v (.tuple ds)) : ∃ (a : Addr) (vs : List Value), v = .ref a ∧ h.get? a = some { cls := .type "tuple", data := .seq vs.toArray } ∧ WellAll P h vs ds := by
 cases x with
 | tuple ho hall => exact ⟨_, _, rfl, ho, hall⟩
theorem well_cons {P : Params} {h : Heap} {us : List Value} {d : WData} {ds : List WData} (x : WellAll P h us (d :: ds)) : ∃ (v : Value) (vs : List Value), us = v :: vs ∧ Well P h v d ∧ WellAll P h vs ds := by
 cases x with
 | cons a b => exact ⟨_, _, rfl, a, b⟩
theorem line_of {n : Nat} (h : n ≤ 1048576) : n ≤ sizeLine := Nat.le_trans h (by decide)
section
variable {P : Params} {h : Heap}
mutual
theorem area_one : ∀ (d : WData) (v : Value), Well P h v d → plW d = true → d.weight ≤ 1048576 → ∃ A : List Addr, OkU A v ∧ ∀ a ∈ A, ArgOb h A a
 | .none, _, x, _, _ => by
  cases x
  exact ⟨[], trivial, fun a m => absurd m (by simp)⟩
 | .bool b, _, x, _, _ => by
  cases x
  exact ⟨[], trivial, fun a m => absurd m (by simp)⟩
 | .int i, _, x, _, _ => by
  cases x
  exact ⟨[], trivial, fun a m => absurd m (by simp)⟩
 | .str s, _, x, _, _ => by
  cases x
  exact ⟨[], trivial, fun a m => absurd m (by simp)⟩
 | .bytes b, _, x, _, _ => by
  cases x
  exact ⟨[], trivial, fun a m => absurd m (by simp)⟩
 | .list ds, _, x, p, z => by
  obtain ⟨a, vs, rfl, ho, hall⟩ := well_list x
  have z2 : WData.weightAll ds ≤ 1048576 := z
  obtain ⟨A, h1, h2⟩ := area_all ds _ hall p fun d hd => Nat.le_trans (weight_mem hd) z2
  have k : ∀ b ∈ A, b ∈ a :: A := fun b hb => List.mem_cons_of_mem _ hb
  refine ⟨a :: A, List.mem_cons_self .., fun b hb => ?_⟩
  rcases List.mem_cons.mp hb with e | m
  ·rw [e]
   exact ⟨vs, line_of (by rw [wellAll_len hall]; exact Nat.le_trans (PySem.W.length_le_weightAllW ds) z2), fun u hu => (h1 u hu).mono k, .inl ho⟩
  ·exact (h2 b m).mono k
 | .tuple ds, _, x, p, z => by
  obtain ⟨a, vs, rfl, ho, hall⟩ := well_tuple x
  have z2 : WData.weightAll ds ≤ 1048576 := z
  obtain ⟨A, h1, h2⟩ := area_all ds _ hall p fun d hd => Nat.le_trans (weight_mem hd) z2
  have k : ∀ b ∈ A, b ∈ a :: A := fun b hb => List.mem_cons_of_mem _ hb
  refine ⟨a :: A, List.mem_cons_self .., fun b hb => ?_⟩
  rcases List.mem_cons.mp hb with e | m
  ·rw [e]
   exact ⟨vs, line_of (by rw [wellAll_len hall]; exact Nat.le_trans (PySem.W.length_le_weightAllW ds) z2), fun u hu => (h1 u hu).mono k, .inr ho⟩
  ·exact (h2 b m).mono k
 | .float _, _, _, p, _ => Bool.noConfusion (show false = true from p)
 | .dict _, _, _, p, _ => Bool.noConfusion (show false = true from p)
 | .bytearray _, _, _, p, _ => Bool.noConfusion (show false = true from p)
 | .set _, _, _, p, _ => Bool.noConfusion (show false = true from p)
 | .frozenset _, _, _, p, _ => Bool.noConfusion (show false = true from p)
 | .obj _ _, _, _, p, _ => Bool.noConfusion (show false = true from p)
theorem area_all : ∀ (ds : List WData) (vs : List Value), WellAll P h vs ds → plWs ds = true → (∀ d ∈ ds, d.weight ≤ 1048576) → ∃ A : List Addr, (∀ u ∈ vs, OkU A u) ∧ ∀ a ∈ A, ArgOb h A a
 | [], _, x, _, _ => by
  cases x
  exact ⟨[], fun u m => absurd m (by simp), fun a m => absurd m (by simp)⟩
 | d :: ds, _, x, p, z => by
  obtain ⟨v, vs, rfl, x1, x2⟩ := well_cons x
  have q : plW d = true ∧ plWs ds = true := Bool.and_eq_true_iff.mp p
  obtain ⟨A, a1, a2⟩ := area_one d v x1 q.1 (z d (List.mem_cons_self ..))
  obtain ⟨B, b1, b2⟩ := area_all ds vs x2 q.2 fun e he => z e (List.mem_cons_of_mem _ he)
  have kA : ∀ b ∈ A, b ∈ A ++ B := fun b hb => List.mem_append.mpr (.inl hb)
  have kB : ∀ b ∈ B, b ∈ A ++ B := fun b hb => List.mem_append.mpr (.inr hb)
  refine ⟨A ++ B, fun u hu => ?_, fun b hb => ?_⟩
  ·rcases List.mem_cons.mp hu with e | m
   ·rw [e]
    exact a1.mono kA
   ·exact (b1 u m).mono kB
  ·rcases List.mem_append.mp hb with m | m
   ·exact (a2 b m).mono kA
   ·exact (b2 b m).mono kB
end
end
def hoOf (o : Obj) : Option HO := match o.data with
 | .seq vs _ => if (o.cls == Value.type "list") = true then some (.frz o (.lst (vs.toList.map toV))) else some (.frz o (.tup (vs.toList.map toV)))
 | _ => none
def argH (K : PySem.W.Frag) (h : Heap) (A : List Addr) : Hp := fun b => if b ∈ A then (if (K.lookup b).isNone = true then (h.get? b).bind hoOf else none) else none
def OnlyF (H : Hp) : Prop := ∀ b, H b = none ∨ ∃ o u, H b = some (.frz o u)
theorem hoOf_lst (vs : List Value) : hoOf { cls := .type "list", data := .seq vs.toArray } = some (.frz { cls := .type "list", data := .seq vs.toArray } (.lst (vs.map toV))) := by
 show (if (Value.type "list" == Value.type "list") = true then some (HO.frz { cls := .type "list", data := .seq vs.toArray } (.lst (vs.toArray.toList.map toV))) else some (HO.frz { cls := .type "list", data := .seq vs.toArray } (.tup (vs.toArray.toList.map toV)))) = _
 rw [if_pos (beq_self_eq_true _)]
theorem hoOf_tup (vs : List Value) : hoOf { cls := .type "tuple", data := .seq vs.toArray } = some (.frz { cls := .type "tuple", data := .seq vs.toArray } (.tup (vs.map toV))) := by
 show (if (Value.type "tuple" == Value.type "list") = true then some (HO.frz { cls := .type "tuple", data := .seq vs.toArray } (.lst (vs.toArray.toList.map toV))) else some (HO.frz { cls := .type "tuple", data := .seq vs.toArray } (.tup (vs.toArray.toList.map toV)))) = _
 rw [if_neg (by decide)]
section
variable {P : Program} {w : World} {K : PySem.W.Frag} {h : Heap} {A : List Addr}
theorem argH_at {b : Addr} {o : Obj} (hb : b ∈ A) (hk : K.lookup b = none) (e : h.get? b = some o) : argH K h A b = hoOf o := by
 unfold argH
 rw [if_pos hb, hk, if_pos (show (none : Option Obj).isNone = true from rfl), e] <;> rfl
theorem of_argH {b : Addr} {u : HO} (q : argH K h A b = some u) : b ∈ A ∧ K.lookup b = none := by
 unfold argH at q
 by_cases hb : b ∈ A
 ·rw [if_pos hb] at q
  cases hk : K.lookup b with
  | none => exact ⟨hb, rfl⟩
  | some o =>
   rw [hk, if_neg (by simp)] at q
   cases q
 ·rw [if_neg hb] at q
  cases q
theorem argH_is (ar : ∀ a ∈ A, ArgOb h A a) {b : Addr} {u : HO} (q : argH K h A b = some u) : K.lookup b = none ∧ ∃ vs : List Value, vs.length ≤ sizeLine ∧ (∀ u ∈ vs, OkU A u) ∧
  ((h.get? b = some { cls := .type "list", data := .seq vs.toArray } ∧ u = .frz { cls := .type "list", data := .seq vs.toArray } (.lst (vs.map toV))) ∨
   (h.get? b = some { cls := .type "tuple", data := .seq vs.toArray } ∧ u = .frz { cls := .type "tuple", data := .seq vs.toArray } (.tup (vs.map toV)))) := by
 obtain ⟨hb, hk⟩ := of_argH q
 obtain ⟨vs, h1, h2, h3⟩ := ar b hb
 refine ⟨hk, vs, h1, h2, ?_⟩
 rcases h3 with e | e
 ·rw [argH_at hb hk e, hoOf_lst] at q
  exact .inl ⟨e, (Option.some.inj q).symm⟩
 ·rw [argH_at hb hk e, hoOf_tup] at q
  exact .inr ⟨e, (Option.some.inj q).symm⟩
theorem argH_only (ar : ∀ a ∈ A, ArgOb h A a) : OnlyF (argH K h A) := fun b => by
 cases q : argH K h A b with
 | none => exact .inl rfl
 | some u =>
  obtain ⟨_, vs, _, _, ⟨_, e⟩ | ⟨_, e⟩⟩ := argH_is ar q
  ·exact .inr ⟨_, _, by rw [e]⟩
  ·exact .inr ⟨_, _, by rw [e]⟩
theorem argH_ok (ar : ∀ a ∈ A, ArgOb h A a) : HOk P w (argH K h A) h := fun b u q => by
 obtain ⟨_, vs, h1, h2, ⟨e, rfl⟩ | ⟨e, rfl⟩⟩ := argH_is ar q
 ·exact ⟨e, by rw [List.length_map]; exact h1, vs, _, vals_toV h2, e⟩
 ·exact ⟨e, by rw [List.length_map]; exact h1, vs, vals_toV h2, _, e, rfl, _, rfl⟩
theorem seq_inj {c c' : Value} {vs us : List Value} (e : (some { cls := c, data := .seq vs.toArray } : Option Obj) = some { cls := c', data := .seq us.toArray }) : c = c' ∧ vs = us := by
 have e1 := Option.some.inj e
 have e2 : c = c' := congrArg Obj.cls e1
 have e3 : Data.seq vs.toArray = Data.seq us.toArray := congrArg Obj.data e1
 injection e3 with e4
 refine ⟨e2, ?_⟩
 have e5 := congrArg Array.toList e4
 simpa using e5
theorem argL (KX : K.In h) (ar : ∀ a ∈ A, ArgOb h A a) {a : Addr} {vs : List Value} (ha : a ∈ A) (e : h.get? a = some { cls := .type "list", data := .seq vs.toArray }) : (∀ u ∈ vs, OkU A u) ∧ SqL K (argH K h A) a (vs.map toV) := by
 obtain ⟨us, h1, h2, h3⟩ := ar a ha
 have hu : us = vs := by
  rcases h3 with q | q
  ·rw [e] at q
   exact (seq_inj q).2.symm
  ·rw [e] at q
   exact absurd (Value.type.inj (seq_inj q).1) (by decide)
 subst hu
 refine ⟨h2, ?_⟩
 cases hk : K.lookup a with
 | none => exact .inl (.inr ⟨_, by rw [argH_at ha hk e, hoOf_lst]⟩)
 | some o =>
  have e2 := KX a o hk
  rw [e] at e2
  obtain rfl := Option.some.inj e2
  exact .inr ⟨_, us.toArray, _, hk, rfl, rfl, rfl, by rw [List.size_toArray]; exact h1, by simpa using vals_toV h2⟩
theorem argT (KX : K.In h) (ar : ∀ a ∈ A, ArgOb h A a) {a : Addr} {vs : List Value} (ha : a ∈ A) (e : h.get? a = some { cls := .type "tuple", data := .seq vs.toArray }) : (∀ u ∈ vs, OkU A u) ∧ SqT K (argH K h A) a (vs.map toV) := by
 obtain ⟨us, h1, h2, h3⟩ := ar a ha
 have hu : us = vs := by
  rcases h3 with q | q
  ·rw [e] at q
   exact absurd (Value.type.inj (seq_inj q).1) (by decide)
  ·rw [e] at q
   exact (seq_inj q).2.symm
 subst hu
 refine ⟨h2, ?_⟩
 cases hk : K.lookup a with
 | none => exact .inl (.inr ⟨_, by rw [argH_at ha hk e, hoOf_tup]⟩)
 | some o =>
  have e2 := KX a o hk
  rw [e] at e2
  obtain rfl := Option.some.inj e2
  exact .inr ⟨_, us.toArray, _, hk, rfl, rfl, by rw [List.size_toArray]; exact h1, by simpa using vals_toV h2⟩
mutual
theorem dw_one {Pm : Params} (KX : K.In h) (ar : ∀ a ∈ A, ArgOb h A a) : ∀ (d : WData) (v : Value), Well Pm h v d → plW d = true → OkU A v → Dw K (argH K h A) (toV v) d
 | .none, _, x, _, _ => by
  cases x
  exact .non
 | .bool b, _, x, _, _ => by
  cases x
  exact .bl b
 | .int i, _, x, _, _ => by
  cases x
  exact .int i
 | .str s, _, x, _, _ => by
  cases x
  exact .str s
 | .bytes b, _, x, _, _ => by
  cases x
  have z := Dw.byt (K := K) (H := argH K h A) b.toArray
  exact z
 | .list ds, _, x, p, hu => by
  obtain ⟨a, vs, rfl, ho, hall⟩ := well_list x
  obtain ⟨h2, hs⟩ := argL KX ar hu ho
  exact .lst hs (dw_all KX ar ds _ hall p h2)
 | .tuple ds, _, x, p, hu => by
  obtain ⟨a, vs, rfl, ho, hall⟩ := well_tuple x
  obtain ⟨h2, hs⟩ := argT KX ar hu ho
  exact .tup hs (dw_all KX ar ds _ hall p h2)
 | .float _, _, _, p, _ => Bool.noConfusion (show false = true from p)
 | .dict _, _, _, p, _ => Bool.noConfusion (show false = true from p)
 | .bytearray _, _, _, p, _ => Bool.noConfusion (show false = true from p)
 | .set _, _, _, p, _ => Bool.noConfusion (show false = true from p)
 | .frozenset _, _, _, p, _ => Bool.noConfusion (show false = true from p)
 | .obj _ _, _, _, p, _ => Bool.noConfusion (show false = true from p)
theorem dw_all {Pm : Params} (KX : K.In h) (ar : ∀ a ∈ A, ArgOb h A a) : ∀ (ds : List WData) (vs : List Value), WellAll Pm h vs ds → plWs ds = true → (∀ u ∈ vs, OkU A u) → DwAll K (argH K h A) (vs.map toV) ds
 | [], _, x, _, _ => by
  cases x
  exact .nil
 | d :: ds, _, x, p, hu => by
  obtain ⟨v, vs, rfl, x1, x2⟩ := well_cons x
  have q : plW d = true ∧ plWs ds = true := Bool.and_eq_true_iff.mp p
  exact .cons (dw_one KX ar d v x1 q.1 (hu _ (List.mem_cons_self ..))) (dw_all KX ar ds vs x2 q.2 fun u m => hu u (List.mem_cons_of_mem _ m))
end
end
theorem spec_call {P : Program} {w : World} {K : PySem.W.Frag} {mg mb : Str → Option Value} {CX : CXT} {k : Nat} {fa : Addr} {fd : FuncData} {ps : List Str} {sp : Sp} {s₁ : Shared} {vals : List Value} {ds : List WData} {R : PySem.W.WRecords} {cl : Str → Option Addr} {d0 : WData}
  (KX : K.In s₁.heap) (hns : s₁.heap.Ns mainGlobals mg) (hb : s₁.heap.Ns builtinsNs mb) (hbb : ∀ x : Str, x ≠ "__name__" → mb x = bootBuiltins x) (hlim : s₁.heap.NoLimit) (hg : s₁.gens = #[])
  (hwl : WellAll w.params s₁.heap vals ds) (hpl : plWs ds = true) (hwt : ∀ d ∈ ds, d.weight ≤ 1048576) (hr : Room k callerA)
  (F : ∀ base : Heap, K.In base → base.Ns mainGlobals mg → FnOk P w K mg base CX k fa fd ps sp) (hbind : ∀ (s : Shared) (us : List Value), us.length = ps.length → BindsTo s fd ⟨us, []⟩ (ps.zip us)) (hlen : ds.length = ps.length)
  (hsp : ∀ (H : Hp) (xs : List V), OnlyF H → DwAll K H xs ds → sp xs H (fun v H' => Dw K H' v d0) fun _ _ _ => False)
  (hCX : ∀ H e s', CX [] H s₁ (fun _ _ _ => False) e s' → False) :
  codeAny (model P w) callerA (.call (.ref fa) ⟨vals, []⟩) (fun r s' => ∃ u as, r = .ok (.ret u) ∧ ReadsW R cl s'.heap u d0 as ∧ OldK s₁.heap s'.heap ∧ s'.os = s₁.os ∧ AllBare s'.gens) s₁ := by
 obtain ⟨A, ho, ar⟩ := area_all ds vals hwl hpl hwt
 have hO : OnlyF (argH K s₁.heap A) := argH_only ar
 have hok : HOk P w (argH K s₁.heap A) s₁.heap := argH_ok ar
 have hS := dw_all KX ar ds vals hwl hpl ho
 have hV := vals_toV ho
 have hK : ∀ b u, argH K s₁.heap A b = some u → K.lookup b = none := fun b u q => (argH_is ar q).1
 have noA : ∀ {b : Addr} {o : Obj} {es : Array DictEntry} {ep : Nat}, s₁.heap.get? b = some o → o.data = .dict es ep → argH K s₁.heap A b = none := fun {b o es ep} e d => by
  cases q : argH K s₁.heap A b with
  | none => rfl
  | some u =>
   obtain ⟨_, vs, _, _, ⟨e2, _⟩ | ⟨e2, _⟩⟩ := argH_is ar q
   ·rw [e2] at e
    cases e
    have d' : Data.seq vs.toArray _ = Data.dict es ep := d
    cases d'
   ·rw [e2] at e
    cases e
    have d' : Data.seq vs.toArray _ = Data.dict es ep := d
    cases d'
 generalize argH K s₁.heap A = H at hO hok hS hK noA
 have base_of : ∀ {b : Addr} {o : Obj}, s₁.heap.get? b = some o → H b = none → (hidT s₁.heap H).get? b = some o := fun e n => hidT_get e n
 have nsK : ∀ {b : Addr} {m : Str → Option Value}, s₁.heap.Ns b m → (hidT s₁.heap H).Ns b m := fun {b m} ⟨o, es, ep, e, d, r⟩ => ⟨o, es, ep, base_of e (noA e d), d, r⟩
 have nK : ∀ b o, K.lookup b = some o → H b = none := fun b o e => by
  cases q : H b with
  | none => rfl
  | some u =>
   rw [hK b u q] at e
   cases e
 have hKb : K.In (hidT s₁.heap H) := fun b o e => base_of (KX b o e) (nK b o e)
 have hM : Mod K mg (hidT s₁.heap H) := ⟨hKb, nsK hns, ⟨mb, nsK hb, hbb⟩, let ⟨mc, h1, h2⟩ := hlim; ⟨mc, nsK h1, h2⟩⟩
 have e0 : Env0 P w K mg (hidT s₁.heap H) callerA [] s₁ H := ⟨rfl, hM, fun b o e => of_hidT e, Nat.le_of_eq (hidT_size _ _), trivial, fun b hb => absurd (show b ∈ ([] : List Addr) from hb) (by simp), hok, .of_eq hg⟩
 have hl : vals.length = ps.length := by rw [wellAll_len hwl]; exact hlen
 refine codeAny_mono ((F _ hKb (nsK hns)).run callerA [] s₁ H ⟨vals, []⟩ vals (vals.map toV) _ _ hr e0 (hbind s₁ vals hl) hV (hsp H _ hO hS)) fun r s' x => ?_
 cases r with
 | error e => exact (hCX H e s' x).elim
 | ok fl =>
  cases fl with
  | next => exact False.elim x
  | brk => exact False.elim x
  | cont => exact False.elim x
  | ret u =>
   obtain ⟨v, H', os, bare, un, hok', r', q⟩ := x
   have kept : ∀ b o, s₁.heap.get? b = some o → s'.heap.get? b = some o := fun b o e => by
    cases q2 : H b with
    | none => exact un.keep b o e q2 (by intro z; exact absurd (show b ∈ ([] : List Addr) from z) (by simp)) (by simp)
    | some u2 =>
     rcases hO b with z | ⟨ob, u3, z⟩
     ·rw [q2] at z
      cases z
     ·have z2 := un.frzs b ob _ z
      obtain ⟨e1, _⟩ := hok b _ z
      obtain ⟨e2, _⟩ := hok' b _ z2
      rw [e] at e1
      cases e1
      exact e2
   have KX' : K.In s'.heap := fun b o e => kept b o (KX b o e)
   obtain ⟨as, hrd⟩ := Dw.reads (R := R) (cl := cl) hok' KX' d0 v u q r'
   exact ⟨u, as, rfl, hrd, OldK.of_keep kept, os, bare⟩
theorem layable_weight {ds : List WData} (h : WData.layableAll ds = true) : ∀ d ∈ ds, d.weight ≤ 1048576 := fun d hd =>
 (PySem.W.layableW_iff.mp (List.all_eq_true.mp h d hd)).2.2
theorem encAll_len : ∀ (cs : List Codec) (a : Codec.denoteAll cs), (Codec.encAll cs a).length = cs.length
 | [], _ => rfl
 | c :: cs, a => by
  show (Codec.encAll cs a.2).length + 1 = cs.length + 1
  rw [encAll_len cs a.2]
theorem walk_spec {r : OpenSpec} {k : Nat} {q : Program} {loose : List Str} {XP : (Str → Option Value) → Heap → Prop} {YP : World → Heap → Prop} {d : DefRec} {K : Params → PySem.W.Frag} {CX : World → CXT} {ps : List Str} {sp : World → Sp}
  (hwell : r.wellSaid = true) (hdf : d.params.defaults = []) (hlen : r.args.length = ps.length) (hr : Room k callerA)
  (hY : ∀ (w : World) (h : Heap), YP w h → (K w.params).In h)
  (F : ∀ (w : World) (mg : Str → Option Value) (fa : Addr) (h : Heap), YP w h → (K w.params).In h → h.Ns mainGlobals mg → mg d.name = some (.ref fa) →
   ∃ fd : FuncData, (∀ (s : Shared) (us : List Value), us.length = ps.length → BindsTo s fd ⟨us, []⟩ (ps.zip us)) ∧
    ∀ base : Heap, (K w.params).In base → base.Ns mainGlobals mg → FnOk r.prog w (K w.params) mg base (CX w) k fa fd ps (sp w))
  (hsp : ∀ (w : World) (H : Hp) (xs : List V) (a : Codec.denoteAll r.args), OnlyF H → Codec.withinAll r.args a = true → Codec.app r.args r.asked a = true → DwAll (K w.params) H xs (Codec.encAll r.args a) →
   sp w xs H (fun v H' => Dw (K w.params) H' v (r.ret.enc (Codec.app r.args r.f a))) fun _ _ _ => False)
  (hCX : ∀ (w : World) (H : Hp) (s : Shared) (e : Value) (s' : Shared), CX w [] H s (fun _ _ _ => False) e s' → False) :
  PySem.W.WalkOS q loose XP YP r d [] (fun f vs => PySem.call f vs) := by
 intro w s_0 s₁ mg mb G Y fa o pm cd doc dV kV ho hd hcd hD hmg hg args vals as hpre hlay hrd hwl hlo
 obtain ⟨a, e1, e2⟩ := PySem.W.os_pre_some hpre
 obtain ⟨e3, hwi⟩ := Codec.encAll_of_decAll r.args args a e1
 subst e3
 have KX := hY w _ Y
 obtain ⟨fd, hb, hF⟩ := F w mg fa _ Y KX G.T.g hmg
 refine PySem.W.enter_call (codeAny_mono (spec_call (R := []) (cl := classAt s_0.heap) (d0 := r.ret.enc (Codec.app r.args r.f a)) KX G.T.g G.T.b G.T.builtins G.T.nolimit hg hwl (pl_encAll _ _) (layable_weight hlay) hr hF hb (by rw [encAll_len]; exact hlen)
  (fun H xs hO hS => hsp w H xs a hO hwi e2 hS) fun H e s' => hCX w H s₁ e s') fun r' s' hq => ?_)
 obtain ⟨u, as', rfl, h1, h2, h3, h4⟩ := hq
 exact ⟨.inl ⟨u, _, as', rfl, fun _ => rfl, h1, (OpenSpec.post_iff hwell hwi _ _).mpr rfl, fun z => Bool.noConfusion (show false = true from z)⟩, h2, h3, h4⟩
theorem walk_specK {r : OpenSpec} {k : Nat} {q : Program} {loose : List Str} {XP : (Str → Option Value) → Heap → Prop} {YP : World → Heap → Prop} {d : DefRec} {K : Params → PySem.W.Frag} {CX : CXT} {ps : List Str} {sp : PySem.W.Frag → Sp}
  (hwell : r.wellSaid = true) (hdf : d.params.defaults = []) (hlen : r.args.length = ps.length) (hr : Room k callerA)
  (hY : ∀ (w : World) (h : Heap), YP w h → (K w.params).In h)
  (F : ∀ (w : World) (mg : Str → Option Value) (fa : Addr) (h : Heap), YP w h → (K w.params).In h → h.Ns mainGlobals mg → mg d.name = some (.ref fa) →
   ∃ fd : FuncData, (∀ (s : Shared) (us : List Value), us.length = ps.length → BindsTo s fd ⟨us, []⟩ (ps.zip us)) ∧
    ∀ base : Heap, (K w.params).In base → base.Ns mainGlobals mg → FnOk r.prog w (K w.params) mg base CX k fa fd ps (sp (K w.params)))
  (hsp : ∀ (K : PySem.W.Frag) (H : Hp) (xs : List V) (a : Codec.denoteAll r.args), OnlyF H → Codec.withinAll r.args a = true → Codec.app r.args r.asked a = true → DwAll K H xs (Codec.encAll r.args a) →
   sp K xs H (fun v H' => Dw K H' v (r.ret.enc (Codec.app r.args r.f a))) fun _ _ _ => False)
  (hCX : ∀ (H : Hp) (s : Shared) (e : Value) (s' : Shared), CX [] H s (fun _ _ _ => False) e s' → False) :
  PySem.W.WalkOS q loose XP YP r d [] (fun f vs => PySem.call f vs) :=
 walk_spec (K := K) (CX := fun _ => CX) (sp := fun w => sp (K w.params)) hwell hdf hlen hr hY F (fun w H xs a h1 h2 h3 h4 => hsp (K w.params) H xs a h1 h2 h3 h4) fun _ H s e s' => hCX H s e s'
end L2
end
set_option Elab.async false
set_option linter.all false
set_option maxRecDepth 100000
namespace L2
open PySem PySem.Spec PyProof.Rows
section
variable {X : Cx}
theorem ints_are : ∀ {ns : List Int} {its : List Value}, Vals (ns.map V.int) its → IntsAre its ns
 | [], _, r => by cases r; exact .nil
 | n :: ns, _, r => by
  cases r with
  | cons r1 r2 =>
   obtain ⟨t, rfl⟩ := r1
   exact .cons _ _ (ints_are r2)
theorem call_sum (hc : X.calm = true) : CallR X (.builtin "sum") (fun xs H Q => ∃ (p : Addr) (ns : List Int), xs = [.ref p] ∧ SqL X.K H p (ns.map V.int) ∧ Q (.int ns.sum) H) := by
 intro pins s σ H xs us Q I r h
 obtain ⟨p, ns, rfl, hs, q⟩ := h
 obtain ⟨u, rfl, ru⟩ := vals1 r
 cases ru
 obtain ⟨its, rv, pl, _⟩ := I.list hs
 have hi := ints_are rv
 obtain ⟨zs, ez⟩ := hi.allInts.items
 have hl : s.heap.IsList p (intItems zs) := by rw [← ez]; exact pl.isList
 refine sum_intListG (I.ok.hd hc) hl fun h' tk t' k => ⟨.int ns.sum, H, I.kept k, ⟨t', ?_⟩, q⟩
 rw [preSum_eq, List.take_of_length_le (by simp)]
 have e1 := hi.numsOf
 rw [show its = its.toArray.toList from rfl, ez, nums_intItems] at e1
 rw [e1]
theorem bool_at {bs : List Bool} {its : List Value} (r : Vals (bs.map V.bl) its) {i : Nat} {v : Value} (h : its.toArray[i]? = some v) : v = .bool (bs.getD i false) := by
 rw [List.getElem?_toArray] at h
 have hl := r.length
 have hi : i < its.length := (List.getElem?_eq_some_iff.mp h).1
 rw [List.length_map] at hl
 have hb : bs[i]? = some (bs[i]'(by omega)) := List.getElem?_eq_getElem (by omega)
 obtain ⟨u, hu, rl⟩ := Vals.get (i := i) (x := V.bl (bs[i]'(by omega))) r (by rw [List.getElem?_map, hb]; rfl)
 rw [h] at hu
 cases hu
 rw [List.getD_eq_getElem?_getD, hb]
 exact rl
theorem range_all (bs : List Bool) : (List.range bs.length).all (fun i => bs.getD i false) = bs.all id := by
 have e : bs = (List.range bs.length).map (fun j => bs.getD j false) := (range_getD bs false).symm
 conv => rhs; rw [e]
 rw [List.all_map]; rfl
theorem range_any (bs : List Bool) : (List.range bs.length).any (fun i => bs.getD i false) = bs.any id := by
 have e : bs = (List.range bs.length).map (fun j => bs.getD j false) := (range_getD bs false).symm
 conv => rhs; rw [e]
 rw [List.any_map]; rfl
theorem iter_plain {prog : Program} {w : World} {A : Around} {E : Value → Shared → Prop} {s : Shared} {l : Addr} {its : Array Value} {Q : Value → Shared → Prop} (hl : s.heap.IsList l its)
  (h : l ≠ s.heap.objs.size → (∀ b ∈ [s.heap.objs.size, l], b < (s.heap.push { cls := .type "list_iterator", data := .fields #[.ref l, .int 0 0] }).objs.size) →
   (Heap.IsListIter (s.heap.push { cls := .type "list_iterator", data := .fields #[.ref l, .int 0 0] }) s.heap.objs.size l 0 ∧ Heap.IsList (s.heap.push { cls := .type "list_iterator", data := .fields #[.ref l, .int 0 0] }) l its) →
   Q (.ref s.heap.objs.size) { s with heap := s.heap.push { cls := .type "list_iterator", data := .fields #[.ref l, .int 0 0] } }) :
  wpAny (model prog w) A (pyIter (.ref l)) Q E s := by
 have hlt : l < s.heap.objs.size := by
  obtain ⟨_, e, _⟩ := hl
  exact Heap.lt_size e
 refine wpAny_pyIter_list hl (h (Nat.ne_of_lt hlt) ?_ ⟨⟨_, Heap.get?_push_size _ rfl, rfl, rfl⟩, hl.push _⟩)
 intro b hb
 rw [Heap.size_push]
 simp only [List.mem_cons, List.not_mem_nil, or_false] at hb
 rcases hb with e | e
 ·rw [e]
  exact Nat.lt_succ_self _
 ·rw [e]
  exact Nat.lt_succ_of_lt hlt
theorem call_all (hc : X.calm = true) : CallR X (.builtin "all") (fun xs H Q => ∃ (p : Addr) (bs : List Bool), xs = [.ref p] ∧ SqL X.K H p (bs.map V.bl) ∧ Q (.bl (bs.all id)) H) := by
 intro pins s σ H xs us Q I r h
 obtain ⟨p, bs, rfl, hs, q⟩ := h
 obtain ⟨u, rfl, ru⟩ := vals1 r
 cases ru
 obtain ⟨its, rv, pl, _⟩ := I.list hs
 have hn : its.toArray.size = bs.length := by
  have := rv.length
  rw [List.length_map] at this
  simp only [List.size_toArray]
  exact this.symm
 refine call_all_walk (iter_plain pl.isList fun hne hfp st => ?_)
 refine ⟨_, _, _, _, _, _, fun i => bs.getD i false, rfl, Walks.list (A := X.A.in1) (I.ok.hd hc) _ p hne its.toArray, st, ?_, fun h' tk k => ?_⟩
 ·intro i v s2 Q2 E2 hv hq
  have e := bool_at rv hv
  subst e
  exact wpAny_truthy_bool hq
 ·rw [hn, range_all]
  exact ⟨.bl (bs.all id), H, I.kept (old_kept k), rfl, q⟩
theorem call_any (hc : X.calm = true) : CallR X (.builtin "any") (fun xs H Q => ∃ (p : Addr) (bs : List Bool), xs = [.ref p] ∧ SqL X.K H p (bs.map V.bl) ∧ Q (.bl (bs.any id)) H) := by
 intro pins s σ H xs us Q I r h
 obtain ⟨p, bs, rfl, hs, q⟩ := h
 obtain ⟨u, rfl, ru⟩ := vals1 r
 cases ru
 obtain ⟨its, rv, pl, _⟩ := I.list hs
 have hn : its.toArray.size = bs.length := by
  have := rv.length
  rw [List.length_map] at this
  simp only [List.size_toArray]
  exact this.symm
 refine call_any_walk (iter_plain pl.isList fun hne hfp st => ?_)
 refine ⟨_, _, _, _, _, _, fun i => bs.getD i false, rfl, Walks.list (A := X.A.in1) (I.ok.hd hc) _ p hne its.toArray, st, ?_, fun h' tk k => ?_⟩
 ·intro i v s2 Q2 E2 hv hq
  have e := bool_at rv hv
  subst e
  exact wpAny_truthy_bool hq
 ·rw [hn, range_any]
  exact ⟨.bl (bs.any id), H, I.kept (old_kept k), rfl, q⟩
end
end L2
set_option Elab.async false
set_option linter.all false
set_option maxRecDepth 100000
namespace L2
open PySem PySem.Spec PyProof.Rows
def bestOf (val : Nat → Int) : Nat → Nat → Option Int → Option Int
 | _, 0, o => o
 | i, k + 1, none => bestOf val (i + 1) k (some (val i))
 | i, k + 1, some m => bestOf val (i + 1) k (some (if val i > m then val i else m))
def OldIs (o : Option Int) (old : List Value) : Prop := match o with
 | none => old = []
 | some m => ∃ t, old = [.int m t, .int m t]
def BestIs (d : Value) (o : Option Int) (v : Value) : Prop := match o with
 | none => v = d
 | some m => ∃ t, v = .int m t
theorem gt_ints {prog : Program} {w : World} {A : Around} {E : Value → Shared → Prop} {s : Shared} {a b : Int} {t u : Tok} {Q : Value → Shared → Prop} (q : Q (.bool (decide (a > b))) s) :
  wpAny (model prog w) A (richCompare .Gt (.int a t) (.int b u)) Q E s :=
 CmpOf.ints_gt (P := fun i v => ∃ t, v = .int (if i = 0 then a else b) t) (fun i => if i = 0 then a else b) (fun _ _ h => h) 0 1 _ _ s Q E ⟨t, rfl⟩ ⟨u, rfl⟩ q
section
variable {prog : Program} {w : World} {A : Around} {R : Result → Shared → Prop} {I : Addr} {fp wr : List Addr} {n : Nat} {P : Nat → Value → Prop} {St : Nat → Heap → Prop}
theorem maxD_loop (W : Walks prog w A.in1 I fp wr n P St) (val : Nat → Int) (hval : ∀ i v, P i v → ∃ t, v = .int (val i) t) (S : Addr) (hSf : S ∉ fp) (d : Value) :
  ∀ (k i : Nat) (s : Shared) (o : Option Int) (old : List Value) (c : Nat), n - i = k → i ≤ n → St i s.heap → OldIs o old →
   s.heap.get? S = some { cls := .type "list", dict := none, data := .seq old.toArray c, slots := #[] } →
   (∀ v h' tk, BestIs d (bestOf val i k o) v → (∀ b ob, b ∉ wr → b ≠ S → s.heap.get? b = some ob → h'.get? b = some ob) → R (.ok (.ret v)) { s with heap := h', toks := tk }) →
   codeAny (model prog w) A (.builtin "max.loop" ⟨[.ref I, .none, .ref S], [("default", d)]⟩) R s := by
 have nw : S ∉ wr := fun h => hSf (W.sub _ h)
 have nm : (toString "max" ++ toString ".loop" : String) = "max.loop" := by decide
 intro k
 induction k with
 | zero =>
  intro i s o old c hk hi hst ho hS hR
  have ei : i = n := by omega
  subst ei
  refine codeAny_builtin PySem.F.entry_max_loop ?_
  rw [Around.under_plainId PySem.F.plain_max_loop _]
  show wpAny _ A.in1 (seqItems? (.ref S) >>= _) _ _ s
  refine wpAny_bind (wpAny_seqItems hS rfl ?_)
  show wpAny _ A.in1 (tryCatch (pyNext (.ref I)) _ >>= _) _ _ s
  refine wpAny_bind (wpAny_tryCatch (W.done s _ _ hst fun h' tk kp => ?_))
  have gS := kp S _ nw hS
  cases o with
  | none =>
   have e : old = [] := ho
   subst e
   refine wpAny_bind (wpAny_rule (wpAny_pure ?_))
   exact hR d h' tk rfl fun b ob hb _ e => kp b ob hb e
  | some m =>
   obtain ⟨t, e⟩ : ∃ t, old = [.int m t, .int m t] := ho
   subst e
   show wpAny _ A.in1 (updateSeq S (fun _ => #[]) >>= _) _ _ _
   refine wpAny_bind (wpAny_updateSeq gS rfl (wpAny_bind (wpAny_letGo (wpAny_pure ?_))))
   exact hR _ _ tk ⟨t, rfl⟩ fun b ob hb hbS e => (Heap.get?_update_other _ _ (Ne.symm hbS)).trans (kp b ob hb e)
 | succ k ih =>
  intro i s o old c hk hi hst ho hS hR
  have lt : i < n := by omega
  refine codeAny_builtin PySem.F.entry_max_loop ?_
  rw [Around.under_plainId PySem.F.plain_max_loop _]
  show wpAny _ A.in1 (seqItems? (.ref S) >>= _) _ _ s
  refine wpAny_bind (wpAny_seqItems hS rfl ?_)
  show wpAny _ A.in1 (tryCatch (pyNext (.ref I)) _ >>= _) _ _ s
  refine wpAny_bind (wpAny_tryCatch (W.item i s _ _ lt hst fun v h' tk hP hst2 kp => ?_))
  have gS := kp S _ nw hS
  obtain ⟨tv, ev⟩ := hval i v hP
  subst ev
  have fr : ∀ (h2 : Heap), (∀ b ∈ fp, ∀ ob, h'.get? b = some ob → h2.get? b = some ob) → St (i + 1) h2 := fun h2 q => W.frame _ _ _ hst2 q
  cases o with
  | none =>
   have e : old = [] := ho
   subst e
   show wpAny _ A.in1 (updateSeq S (fun _ => #[.int (val i) tv, .int (val i) tv]) >>= _) _ _ _
   refine wpAny_bind (wpAny_updateSeq gS rfl ?_)
   rw [nm]
   refine wpAny_pure ⟨plainId_quiet PySem.F.plain_max_loop _, ih (i + 1) _ (some (val i)) [.int (val i) tv, .int (val i) tv] _ (by omega) lt (fr _ fun b hb ob e => ?_) ⟨tv, rfl⟩ (Heap.get?_update_self _ gS rfl) fun v2 h2 tk2 q2 kp2 => ?_⟩
   ·exact (Heap.get?_update_other _ _ (fun z : S = b => hSf (by rw [z]; exact hb))).trans e
   ·exact hR v2 h2 tk2 q2 fun b ob hb hbS e => kp2 b ob hb hbS ((Heap.get?_update_other _ _ (Ne.symm hbS)).trans (kp b ob hb e))
  | some m =>
   obtain ⟨t, e⟩ : ∃ t, old = [.int m t, .int m t] := ho
   subst e
   show wpAny _ A.in1 (tryCatch (holding [.int (val i) tv, .int (val i) tv] (richCompare .Gt (.int (val i) tv) (.int m t) >>= _)) _ >>= _) _ _ _
   refine wpAny_bind (wpAny_tryCatch (wpAny_holding (wpAny_bind (gt_ints ?_))))
   refine wpAny_bind (wpAny_holding (wpAny_truthy_bool ?_))
   refine wpAny_bind (wpAny_letGo (wpAny_pure ?_))
   by_cases hb : val i > m
   ·rw [decide_eq_true hb, if_pos rfl]
    refine wpAny_bind (wpAny_updateSeq gS rfl (wpAny_bind (wpAny_letGo ?_)))
    rw [nm]
    refine wpAny_pure ⟨plainId_quiet PySem.F.plain_max_loop _, ih (i + 1) _ (some (val i)) [.int (val i) tv, .int (val i) tv] _ (by omega) lt (fr _ fun b hb ob e => ?_) ⟨tv, rfl⟩ (Heap.get?_update_self _ gS rfl) fun v2 h2 tk2 q2 kp2 => ?_⟩
    ·exact (Heap.get?_update_other _ _ (fun z : S = b => hSf (by rw [z]; exact hb))).trans e
    ·exact hR v2 h2 tk2 (by unfold bestOf; rw [if_pos hb]; exact q2) fun b ob hb hbS e => kp2 b ob hb hbS ((Heap.get?_update_other _ _ (Ne.symm hbS)).trans (kp b ob hb e))
   ·rw [decide_eq_false hb, if_neg (by decide)]
    refine wpAny_bind (wpAny_letGo ?_)
    rw [nm]
    refine wpAny_pure ⟨plainId_quiet PySem.F.plain_max_loop _, ih (i + 1) _ (some m) [.int m t, .int m t] c (by omega) lt (fr _ fun b hb ob e => e) ⟨t, rfl⟩ gS fun v2 h2 tk2 q2 kp2 => ?_⟩
    exact hR v2 h2 tk2 (by unfold bestOf; rw [if_neg hb]; exact q2) fun b ob hb hbS e => kp2 b ob hb hbS (kp b ob hb e)
end
theorem args_maxD (a v : Value) : argsOk "max" ⟨[a], [("default", v)]⟩ := by
 unfold argsOk
 kernel_rfl
def maxInts : List Int → Int → Int
 | [], d => d
 | x :: xs, _ => xs.foldl (fun m y => if y > m then y else m) x
theorem bestOf_fold (ns : List Int) : ∀ (k i : Nat) (m : Int), ns.length - i = k → i ≤ ns.length → bestOf (fun j => ns.getD j 0) i k (some m) = some ((ns.drop i).foldl (fun m y => if y > m then y else m) m)
 | 0, i, m, hk, hi => by
  rw [List.drop_eq_nil_of_le (by omega)]
  rfl
 | k + 1, i, m, hk, hi => by
  have e : ns.drop i = ns[i]'(by omega) :: ns.drop (i + 1) := List.drop_eq_getElem_cons (by omega)
  rw [e, List.foldl_cons]
  unfold bestOf
  rw [bestOf_fold ns k (i + 1) _ (by omega) (by omega)]
  have e2 : ns.getD i 0 = ns[i]'(by omega) := by rw [List.getD_eq_getElem?_getD, List.getElem?_eq_getElem (by omega)]; rfl
  rw [e2]
theorem bestOf_max (ns : List Int) : bestOf (fun j => ns.getD j 0) 0 ns.length none = if ns.isEmpty then none else some (maxInts ns 0) := by
 cases ns with
 | nil => rfl
 | cons x xs =>
  show bestOf (fun j => (x :: xs).getD j 0) 1 xs.length (some x) = some _
  rw [bestOf_fold (x :: xs) xs.length 1 x (by simp) (by simp)]
  rfl
theorem int_at {ns : List Int} {its : List Value} (r : Vals (ns.map V.int) its) {i : Nat} {v : Value} (h : its.toArray[i]? = some v) : ∃ t, v = .int (ns.getD i 0) t := by
 rw [List.getElem?_toArray] at h
 have hl := r.length
 have hi : i < its.length := (List.getElem?_eq_some_iff.mp h).1
 rw [List.length_map] at hl
 have hb : ns[i]? = some (ns[i]'(by omega)) := List.getElem?_eq_getElem (by omega)
 obtain ⟨u, hu, rl⟩ := Vals.get (i := i) (x := V.int (ns[i]'(by omega))) r (by rw [List.getElem?_map, hb]; rfl)
 rw [h] at hu
 cases hu
 rw [List.getD_eq_getElem?_getD, hb]
 exact rl
section
variable {X : Cx}
theorem call_maxD (hc : X.calm = true) {pins : List (Addr × Obj)} {s : Shared} {σ : St} {H : Hp} {p : Addr} {ns : List Int} {d : Int} {td : Tok} {Q : VK} (I : Inv X pins σ H s) (hs : SqL X.K H p (ns.map V.int)) (q : Q (.int (maxInts ns d)) H) :
  wpAny (model X.prog X.w) X.A (call (.builtin "max") [.ref p] [("default", .int d td)]) (EP X pins σ Q) X.xe s := by
 obtain ⟨its, rv, pl, _⟩ := I.list hs
 have nm : (toString "max" ++ toString ".loop" : String) = "max.loop" := by decide
 have hn : its.toArray.size = ns.length := by
  have := rv.length
  rw [List.length_map] at this
  simp only [List.size_toArray]
  exact this.symm
 refine kmk_tree PySem.F.kind_max PySem.F.plain_max PySem.F.entry_max (args_maxD _ _) ?_
 show wpAny _ _ (Builtin.Builtins.bindParams "max" ["key", "default"] 0 ⟨[], [("default", .int d td)]⟩ >>= _) _ _ s
 refine wpAny_bind (wpAny_of_eq (show Builtin.Builtins.bindParams "max" ["key", "default"] 0 ⟨[], [("default", .int d td)]⟩ = pure [none, some (.int d td)] from rfl) ?_)
 refine wpAny_bind (wpAny_pure ?_)
 refine wpAny_bind (iter_plain pl.isList fun hne hfp st => ?_)
 refine wpAny_bind (wpAny_newObj_type ?_)
 rw [nm]
 refine wpAny_pure ⟨plainId_quiet PySem.F.plain_max_loop _, ?_⟩
 have W := Walks.list (prog := X.prog) (w := X.w) (A := X.A.in1) (I.ok.hd hc) s.heap.objs.size p hne its.toArray
 have nS := fun hm => Nat.lt_irrefl _ (hfp _ hm)
 refine maxD_loop W (fun j => ns.getD j 0) (fun i v hv => int_at rv hv) _ nS (.int d td) its.toArray.size 0 _ none [] 0 (Nat.sub_zero _) (Nat.zero_le _) (W.frame _ _ _ st fun b _ o e => Heap.get?_push_of_some _ e) rfl (Heap.get?_push_size _ rfl) fun v h' tk hb kp => ?_
 rw [hn, bestOf_max] at hb
 have kk : ∀ b o, s.heap.get? b = some o → h'.get? b = some o := fun b o e => by
  have lt := Heap.lt_size e
  refine kp b o ?_ ?_ (Heap.get?_push_of_some _ (Heap.get?_push_of_some _ e))
  ·intro hm
   rw [List.mem_singleton.mp hm] at lt
   exact Nat.lt_irrefl _ lt
  ·intro z
   rw [z] at lt
   rw [Heap.size_push] at lt
   exact absurd lt (Nat.not_lt.mpr (Nat.le_succ _))
 refine ⟨.int (maxInts ns d), H, I.kept kk, ?_, q⟩
 cases ns with
 | nil => exact ⟨td, hb⟩
 | cons x xs => exact hb
def rMaxD (K : PySem.W.Frag) (vs zs : List V) (H : Hp) (Q : VK) : Prop := ∃ (p : Addr) (ns : List Int) (d : Int), vs = [.ref p] ∧ zs = [.int d] ∧ SqL K H p (ns.map V.int) ∧ Q (.int (maxInts ns d)) H
def tMaxD (K : PySem.W.Frag) (ta td : TA) : TE := fun σ H Q => ta σ H fun vs H1 => td σ H1 fun zs H2 => rMaxD K vs zs H2 Q
theorem pe_maxD {p pos kpos : Pos} {a d : Expr} {ta td : TE} (hc : X.calm = true) (hg : Gl X "max") (hm : X.mg "max" = none) (ha : PE X a ta) (hd : PE X d td)
  (hs : starEach [a] X.env = [(false, eval a X.env)] := by rfl) : PE X (.Call (.Name "max" p) [a] [⟨some "default", d, kpos⟩] pos) (tMaxD X.K (tCons ta tNil) (tCons td tNil)) := by
 intro pins s σ H Q I h
 refine wpAny_Call_Name_kw (ld_blt I hg hm boot_max ?_)
 refine callWith_kw (thn (pa_cons ha pa_nil hs pos pins s σ H _ I h) fun us s1 ⟨vs, H1, I1, r1, q1⟩ => ?_) (by rw [hs]; rfl) (by rw [hs]; rfl)
 refine thn (pk_cons (nm := some "default") (kpos := kpos) hd pk_nil pos pins s1 σ H1 _ I1 q1) fun ws s2 ⟨zs, H2, I2, rz, q2⟩ => ?_
 obtain ⟨p, ns, dv, rfl, rfl, hq, q⟩ := q2
 obtain ⟨u, rfl, ru⟩ := vals1 r1
 obtain ⟨z, rfl, tz, rfl⟩ := vals1 rz
 cases ru
 exact call_maxD hc I2 hq q
end
end L2
set_option Elab.async false
set_option linter.all false
set_option maxRecDepth 100000
namespace L2
open PySem PySem.Spec PyProof.Rows
theorem same_upd {H : Hp} {p : Addr} {o : HO} (h : H p = none) : Same H (upd H p o) := fun b u e => by
 rw [upd_ne (ne_of_none e h)]
 exact e
theorem Same.wr {H0 H : Hp} {p : Addr} {o : HO} (s : Same H0 H) (h : H0 p = none) : Same H0 (upd H p o) := fun b u e => by
 rw [upd_ne (ne_of_none e h)]
 exact s b u e
def rLen (K : PySem.W.Frag) : List V → Hp → VK → Prop := fun xs H Q => ∃ (p : Addr) (ys : List V), xs = [.ref p] ∧ (SqL K H p ys ∨ SqT K H p ys) ∧ Q (.int ys.length) H
theorem call_lenR {X : Cx} : CallR X (.builtin "len") (rLen X.K) := call_len_seq
theorem get_list {X : Cx} : PGet X (rIxL X.K) := by
 intro pins s σ H o i ov iv Q I ro ri h
 obtain ⟨p, xs, k, z, rfl, rfl, hq, he, q⟩ := h
 cases ro
 obtain ⟨t, rfl⟩ := ri
 obtain ⟨its, r, pl, hz⟩ := I.list hq
 obtain ⟨j, h1, h2, h3, h4, h5⟩ := atI_get he
 obtain ⟨u, hu, ru⟩ := r.get h2
 have hl := r.length
 have hn := line63
 by_cases h0 : 0 ≤ k
 ·have hk : k.toNat = j := by
   rw [seqIndex_of h0 h5] at h1
   exact Option.some.inj h1
  exact wpAny_getItem_list pl.isList h0 (by omega) (by rw [hk]; simpa using hu) ⟨z, H, I, ru, q⟩
 ·have hk : (k + (its.toArray.size : Int)).toNat = j := by
   rw [seqIndex_neg (by omega) h4] at h1
   rw [List.size_toArray, ← hl]
   exact Option.some.inj h1
  exact wpAny_getItem_list_neg pl.isList (by omega) (by rw [List.size_toArray, ← hl]; exact h4) (by omega) (by rw [hk]; simpa using hu) ⟨z, H, I, ru, q⟩
theorem lc_map {K : PySem.W.Frag} {a : Addr} {xs ys : List V} {k : Nat} {te : TE} {σ : St} {H1 : Hp} {Q : VK} (hx : SqL K H1 a xs) (hl : ys.length = xs.length) (hz : ys.length ≤ sizeLine)
  (he : ∀ (i : Nat) (x y : V) (H' : Hp), xs[i]? = some x → ys[i]? = some y → Same H1 H' → ∀ R : VK, (∀ H4, Same H' H4 → R y H4) → te ((σ.set k none).set k (some x)) H' R)
  (hq : ∀ D H', H1 D = none → Same H1 H' → H' D = some (.lst ys) → Q (.ref D) H') :
  ∀ D, H1 D = none → ∃ W : Nat → Nat → Hp → Prop, (∃ m, W 0 m (upd H1 D (.lst []))) ∧ ∀ i m H, W i m H →
   ((Itl K a).stop i H ∧ Q (.ref D) H) ∨ ((Itl K a).go i H ∧ ∃ Nx : Hp → Prop, (∀ H', Nx H' → ∃ m', m' < m ∧ W (i + 1) m' H') ∧ ∀ x H', (Itl K a).yld i H x H' → gName k x (wipe σ [k]) H' fun σ2 H2 => wipe σ2 [k] = wipe σ [k] ∧ tYes σ2 H2 fun b H3 =>
    if b = true then te σ2 H3 fun y H4 => ∃ acc, H4 D = some (.lst acc) ∧ acc.length < sizeLine ∧ Nx (upd H4 D (.lst (acc ++ [y]))) else Nx H3) := by
 intro D hD
 refine lc_list (K := K) (a := a) (xs := xs) (Qd := fun H => Q (.ref D) H) (fun i H' => Same H1 H' ∧ H' D = some (.lst (ys.take i))) ⟨same_upd hD, upd_same⟩ (fun i H' _ h => h.1.seq hx) ?_ ?_
 ·rintro i x H' hi ⟨s, hd⟩
  have hi' : i < ys.length := by
   rw [hl]
   exact (List.getElem?_eq_some_iff.mp hi).1
  have ey : ys[i]? = some (ys[i]'hi') := List.getElem?_eq_getElem hi'
  refine ⟨?_, ?_⟩
  ·show (((σ.set k none).set k (some x)).set k none) = σ.set k none
   rw [List.set_set]
   exact List.set_set ..
  ·show te (List.set (wipe σ [k]) k (some x)) H' _
   refine he i x _ H' hi ey s _ fun H4 s4 => ⟨ys.take i, s4 _ _ hd, ?_, ?_, ?_⟩
   ·rw [List.length_take]
    omega
   ·exact (s.trans s4).wr hD
   ·rw [upd_same, List.take_succ, ey]
    rfl
 ·rintro H' ⟨s, hd⟩
  rw [← hl, List.take_length] at hd
  exact hq D H' hD s hd
theorem lcv {K : PySem.W.Frag} {a : Addr} {xs : List V} {j k : Nat} {te : TE} {σ : St} {H : Hp} {Q : VK} (ys : List V) (hj : σ[j]? = some (some (.ref a))) (hx : SqL K H a xs) (hl : ys.length = xs.length) (hz : ys.length ≤ sizeLine)
  (he : ∀ (i : Nat) (x y : V) (H' : Hp), xs[i]? = some x → ys[i]? = some y → Same H H' → ∀ R : VK, (∀ H4, Same H' H4 → R y H4) → te ((σ.set k none).set k (some x)) H' R)
  (hq : ∀ D H', H D = none → Same H H' → H' D = some (.lst ys) → Q (.ref D) H') : tLc (iList K (tVar j)) (gName k) tYes te [k] σ H Q :=
 ⟨_, hj, a, rfl, ⟨_, hx⟩, lc_map (Q := Q) (te := te) hx hl hz he hq⟩
theorem lcf {K : PySem.W.Frag} {a o C dx : Addr} {fs : List (Str × V)} {f : Str} {xs : List V} {j k : Nat} {te : TE} {σ : St} {H : Hp} {Q : VK} (ys : List V) (hj : σ[j]? = some (some (.ref o))) (ho : H o = some (.ins C dx fs)) (hc : Cls K C) (hn : NoAttr K C f) (hf : fs.lookup f = some (.ref a))
  (hx : SqL K H a xs) (hl : ys.length = xs.length) (hz : ys.length ≤ sizeLine)
  (he : ∀ (i : Nat) (x y : V) (H' : Hp), xs[i]? = some x → ys[i]? = some y → Same H H' → ∀ R : VK, (∀ H4, Same H' H4 → R y H4) → te ((σ.set k none).set k (some x)) H' R)
  (hq : ∀ D H', H D = none → Same H H' → H' D = some (.lst ys) → Q (.ref D) H') : tLc (iList K (tFld K (tVar j) f)) (gName k) tYes te [k] σ H Q :=
 ⟨_, hj, o, C, dx, fs, _, rfl, ho, hc, hn, hf, a, rfl, ⟨_, hx⟩, lc_map (Q := Q) (te := te) hx hl hz he hq⟩
theorem lcf_filter {K : PySem.W.Frag} {a o C dx : Addr} {fs : List (Str × V)} {f : Str} {xs : List V} {j k : Nat} {tt : TT} {σ : St} {H : Hp} {Q : VK} (pr : V → Bool) (hj : σ[j]? = some (some (.ref o))) (ho : H o = some (.ins C dx fs)) (hc : Cls K C) (hn : NoAttr K C f) (hf : fs.lookup f = some (.ref a))
  (hx : SqL K H a xs) (hk : k < σ.length) (hz : xs.length ≤ sizeLine)
  (ht : ∀ (i : Nat) (x : V) (H' : Hp), xs[i]? = some x → Same H H' → ∀ R : Bool → Hp → Prop, R (pr x) H' → tt ((σ.set k none).set k (some x)) H' R)
  (hq : ∀ D H', H D = none → Same H H' → H' D = some (.lst (xs.filter pr)) → Q (.ref D) H') : tLc (iList K (tFld K (tVar j) f)) (gName k) tt (tVar k) [k] σ H Q := by
 refine ⟨_, hj, o, C, dx, fs, _, rfl, ho, hc, hn, hf, a, rfl, ⟨_, hx⟩, fun D hD => ?_⟩
 refine lc_list (K := K) (a := a) (xs := xs) (Qd := fun H => Q (.ref D) H) (fun i H' => Same H H' ∧ H' D = some (.lst ((xs.take i).filter pr))) ⟨same_upd hD, upd_same⟩ (fun i H' _ h => h.1.seq hx) ?_ ?_
 ·rintro i x H' hi ⟨s, hd⟩
  have et : xs.take (i + 1) = xs.take i ++ [x] := by
   rw [List.take_succ, hi]
   rfl
  refine ⟨?_, ?_⟩
  ·show (((σ.set k none).set k (some x)).set k none) = σ.set k none
   rw [List.set_set]
   exact List.set_set ..
  ·refine ht i x H' hi s _ ?_
   cases e : pr x with
   | true =>
    rw [if_pos rfl]
    refine ⟨x, ?_, (xs.take i).filter pr, hd, ?_, s.wr hD, ?_⟩
    ·show ((σ.set k none).set k (some x))[k]? = some (some x)
     rw [List.getElem?_set_self (by rw [List.length_set]; exact hk)]
    ·have h1 := List.length_filter_le pr (xs.take i)
     rw [List.length_take] at h1
     have h2 := (List.getElem?_eq_some_iff.mp hi).1
     omega
    ·rw [upd_same, et, List.filter_append, List.filter_cons, if_pos e]
     rfl
   | false =>
    rw [if_neg Bool.false_ne_true]
    refine ⟨s, ?_⟩
    rw [et, List.filter_append, List.filter_cons, if_neg (by rw [e]; exact Bool.false_ne_true), List.filter_nil, List.append_nil]
    exact hd
 ·rintro H' ⟨s, hd⟩
  rw [List.take_length] at hd
  exact hq D H' hD s hd
end L2
set_option Elab.async false
set_option linter.all false
set_option maxRecDepth 100000
namespace L2
open PySem PySem.Spec PyProof.Rows
def tMid (t u : TS) : TS := fun D σ H => ∃ Pm : L2.St → Hp → Prop, t { D with nx := Pm } σ H ∧ ∀ σ' H', Pm σ' H' → u D σ' H'
theorem pss_mid {X : Cx} {st : Stmt} {rest : List Stmt} {t u : TS} (h1 : PS X st t) (h2 : PSs X rest u) : PSs X (st :: rest) (tMid t u) := by
 intro pins s σ H D I h
 obtain ⟨Pm, ha, hb⟩ := h
 refine wpAny_execs_cons (thn (h1 pins s σ H { D with nx := Pm } I ha) fun f s1 q => ?_)
 cases f with
 | next =>
  obtain ⟨σ', H', I', q⟩ := q
  exact h2 pins s1 σ' H' D I' (hb σ' H' q)
 | ret v => exact q
 | brk => exact q
 | cont => exact q
end L2
set_option linter.all false
namespace WL
open Vafmtb
def kids : Doc → List Doc
 | .text _ => []
 | .mark _ => []
 | .row l => l
 | .indent _ d => [d]
 | .align d => [d]
 | .group d => [d]
mutual
/-- all parts, each ahead of those that it is made of -/
def subs : Doc → List Doc
 | .text t => [.text t]
 | .mark m => [.mark m]
 | .row l => .row l :: subsAll l
 | .indent n d => .indent n d :: subs d
 | .align d => .align d :: subs d
 | .group d => .group d :: subs d
def subsAll : List Doc → List Doc
 | [] => []
 | d :: l => subs d ++ subsAll l
end
theorem subsAll_append : ∀ a b : List Doc, subsAll (a ++ b) = subsAll a ++ subsAll b
 | [], b => rfl
 | d :: a, b => by
  show subs d ++ subsAll (a ++ b) = subs d ++ subsAll a ++ subsAll b
  rw [subsAll_append a b, List.append_assoc]
theorem subsAll_one (d : Doc) : subsAll [d] = subs d := List.append_nil _
theorem subs_eq (d : Doc) : subs d = d :: subsAll (kids d) := by
 cases d <;> simp only [subs, kids, subsAll, List.append_nil]
mutual
theorem subs_length : ∀ d : Doc, (subs d).length = d.size
 | .text t => rfl
 | .mark m => rfl
 | .row l => by
  show (subsAll l).length + 1 = 1 + sizeAll l
  rw [subsAll_length l, Nat.add_comm]
 | .indent n d => by
  show (subs d).length + 1 = 1 + d.size
  rw [subs_length d, Nat.add_comm]
 | .align d => by
  show (subs d).length + 1 = 1 + d.size
  rw [subs_length d, Nat.add_comm]
 | .group d => by
  show (subs d).length + 1 = 1 + d.size
  rw [subs_length d, Nat.add_comm]
theorem subsAll_length : ∀ l : List Doc, (subsAll l).length = sizeAll l
 | [] => rfl
 | d :: l => by
  show (subs d ++ subsAll l).length = d.size + sizeAll l
  rw [List.length_append, subs_length d, subsAll_length l]
end
theorem size_eq (d : Doc) : d.size = 1 + sizeAll (kids d) := by
 rw [← subs_length, subs_eq, List.length_cons, subsAll_length, Nat.add_comm]
theorem size_pos (d : Doc) : 0 < d.size := by
 rw [size_eq]
 omega
theorem depth_eq (d : Doc) : d.depth = 1 + depthAll (kids d) := by
 cases d <;> simp [Doc.depth, kids, depthAll]
structure RawP where
 kind : Int
 number : Int
 text : List Int
deriving DecidableEq
def toInts (t : Bytes) : List Int := t.map fun b => (b.toNat : Int)
def raw : Doc → RawP
 | .text t => ⟨0, t.length, toInts t⟩
 | .mark m => ⟨m.number, 0, []⟩
 | .row l => ⟨6, l.length, []⟩
 | .indent n _ => ⟨7, n, []⟩
 | .align _ => ⟨8, 0, []⟩
 | .group _ => ⟨9, 0, []⟩
def inner (p : RawP) : Int := if p.kind = 6 then p.number else if p.kind = 7 ∨ p.kind = 8 ∨ p.kind = 9 then 1 else 0
def numbersOf (p : RawP) : List Int := if p.kind = 0 ∨ p.kind = 6 ∨ p.kind = 7 ∨ p.kind = 10 then p.kind :: p.number :: p.text else [p.kind]
theorem inner_raw (d : Doc) : inner (raw d) = (kids d).length := by
 cases d with
 | mark m => cases m <;> rfl
 | _ => rfl
theorem forced_any : ∀ l : List Doc, forcedAny l = l.any Doc.forced
 | [] => rfl
 | d :: l => by
  show (d.forced || forcedAny l) = _
  rw [forced_any l]
  rfl
theorem forced_eq (d : Doc) : d.forced = ((kids d).any Doc.forced || (raw d).kind == 4 || (raw d).kind == 5) := by
 cases d with
 | mark m => cases m <;> rfl
 | text t => rfl
 | row l =>
  show forcedAny l = _
  rw [forced_any]
  simp [kids, raw]
 | indent n d => simp [Doc.forced, kids, raw]
 | align d => simp [Doc.forced, kids, raw]
 | group d => simp [Doc.forced, kids, raw]
mutual
theorem subs_drop : ∀ (r : Doc) (p : Nat) (e : Doc), (subs r)[p]? = some e → ∃ rest, (subs r).drop p = subs e ++ rest
 | .text t, 0, e, h => by
  have h1 : Doc.text t = e := Option.some.inj h
  subst h1
  exact ⟨[], (List.append_nil _).symm⟩
 | .text t, p + 1, e, h => by simp [subs] at h
 | .mark t, 0, e, h => by
  have h1 : Doc.mark t = e := Option.some.inj h
  subst h1
  exact ⟨[], (List.append_nil _).symm⟩
 | .mark t, p + 1, e, h => by simp [subs] at h
 | .row l, 0, e, h => by
  have h1 : Doc.row l = e := Option.some.inj h
  subst h1
  exact ⟨[], (List.append_nil _).symm⟩
 | .row l, p + 1, e, h => subsAll_drop l p e h
 | .indent n d, 0, e, h => by
  have h1 : Doc.indent n d = e := Option.some.inj h
  subst h1
  exact ⟨[], (List.append_nil _).symm⟩
 | .indent n d, p + 1, e, h => subs_drop d p e h
 | .align d, 0, e, h => by
  have h1 : Doc.align d = e := Option.some.inj h
  subst h1
  exact ⟨[], (List.append_nil _).symm⟩
 | .align d, p + 1, e, h => subs_drop d p e h
 | .group d, 0, e, h => by
  have h1 : Doc.group d = e := Option.some.inj h
  subst h1
  exact ⟨[], (List.append_nil _).symm⟩
 | .group d, p + 1, e, h => subs_drop d p e h
theorem subsAll_drop : ∀ (l : List Doc) (p : Nat) (e : Doc), (subsAll l)[p]? = some e → ∃ rest, (subsAll l).drop p = subs e ++ rest
 | [], p, e, h => by simp [subsAll] at h
 | d :: l, p, e, h => by
  have h1 : (subs d ++ subsAll l)[p]? = some e := h
  show ∃ rest, (subs d ++ subsAll l).drop p = subs e ++ rest
  by_cases hp : p < (subs d).length
  ·rw [List.getElem?_append_left hp] at h1
   obtain ⟨r, hr⟩ := subs_drop d p e h1
   exact ⟨r ++ subsAll l, by rw [List.drop_append_of_le_length (by omega), hr, List.append_assoc]⟩
  ·rw [List.getElem?_append_right (by omega)] at h1
   obtain ⟨r, hr⟩ := subsAll_drop l _ e h1
   refine ⟨r, ?_⟩
   rw [List.drop_append, List.drop_eq_nil_of_le (by omega), List.nil_append]
   exact hr
end
def placesFrom : Nat → List Doc → List Nat
 | _, [] => []
 | p, d :: l => p :: placesFrom (p + d.size) l
theorem placesFrom_length : ∀ (p : Nat) (l : List Doc), (placesFrom p l).length = l.length
 | _, [] => rfl
 | p, d :: l => congrArg (· + 1) (placesFrom_length _ l)
theorem placesFrom_append : ∀ (p : Nat) (a b : List Doc), placesFrom p (a ++ b) = placesFrom p a ++ placesFrom (p + sizeAll a) b
 | p, [], b => rfl
 | p, d :: a, b => by
  show p :: placesFrom (p + d.size) (a ++ b) = p :: (placesFrom (p + d.size) a ++ placesFrom (p + (d.size + sizeAll a)) b)
  rw [placesFrom_append, Nat.add_assoc]
theorem placesFrom_at {all : List Doc} : ∀ (l : List Doc) (p : Nat) (rest : List Doc), all.drop p = subsAll l ++ rest → ∀ (i : Nat) (d : Doc), l[i]? = some d → ∃ q, (placesFrom p l)[i]? = some q ∧ all[q]? = some d ∧ p ≤ q ∧ all.drop q = subs d ++ (subsAll (l.drop (i + 1)) ++ rest)
 | [], p, rest, h, i, d, hi => by simp at hi
 | e :: l, p, rest, h, 0, d, hi => by
  have h1 : e = d := Option.some.inj hi
  subst h1
  have h2 : all.drop p = subs e ++ (subsAll l ++ rest) := by rw [h]; exact List.append_assoc _ _ _
  refine ⟨p, rfl, ?_, Nat.le_refl _, h2⟩
  have h3 : (all.drop p)[0]? = some e := by rw [h2, subs_eq]; rfl
  rw [List.getElem?_drop] at h3
  exact h3
 | e :: l, p, rest, h, i + 1, d, hi => by
  have h2 : all.drop p = subs e ++ (subsAll l ++ rest) := by rw [h]; exact List.append_assoc _ _ _
  have h3 : all.drop (p + e.size) = subsAll l ++ rest := by
   rw [← List.drop_drop, h2, ← subs_length e, List.drop_left]
  obtain ⟨q, a, b, c, f⟩ := placesFrom_at l (p + e.size) rest h3 i d hi
  exact ⟨q, a, b, by omega, f⟩
def innerPlaces (p : Nat) (d : Doc) : List Nat := placesFrom (p + 1) (kids d)
theorem kids_drop {r : Doc} {p : Nat} {e : Doc} (h : (subs r)[p]? = some e) : ∃ rest, (subs r).drop (p + 1) = subsAll (kids e) ++ rest := by
 obtain ⟨rest, hr⟩ := subs_drop r p e h
 refine ⟨rest, ?_⟩
 rw [← List.drop_drop, hr, subs_eq]
 rfl
end WL
set_option linter.all false
namespace WL
open Vafmtb
def textOk (t : List Int) : Bool := !(t.head? == some 32 || t.getLast? == some 32) && t.all fun b => decide (0 ≤ b) && decide (b ≤ 255) && !decide (b = 10)
def numberRight (k n : Int) (held : Nat) : Bool :=
 if k = 0 then decide (1 ≤ n) && decide (n ≤ 1000)
 else if k = 7 then decide (0 ≤ n) && decide (n ≤ 8)
 else if k = 10 then decide (0 ≤ n) && decide (n < held)
 else decide (0 ≤ n)
def headPart (held : Nat) : List Int → Option (RawP × List Int)
 | [] => none
 | k :: r =>
  if k < 0 ∨ 10 < k then none
  else if k = 0 ∨ k = 6 ∨ k = 7 ∨ k = 10 then
   match r with
   | [] => none
   | n :: r =>
    if numberRight k n held = false then none
    else if k ≠ 0 then some (⟨k, n, []⟩, r)
    else if (r.length : Int) < n ∨ textOk (r.take n.toNat) = false then none
    else some (⟨k, n, r.take n.toNat⟩, r.drop n.toNat)
  else some (⟨k, 0, []⟩, r)
def spell1 (ds : List Doc) (p : RawP) : List RawP := if p.kind = 10 then match ds[p.number.toNat]? with
 | some d => (subs d).map raw
 | none => []
 else [p]
def spell (ds : List Doc) (ps : List RawP) : List RawP := ps.flatMap (spell1 ds)
def restP (ds : List Doc) : List Nat → List Int → Option (List RawP)
 | [], y => if y = [] then some [] else none
 | n :: s, y => match readSome (readDoc ds (40 - s.length)) n y with
  | none => none
  | some (l, z) => (restP ds s z).map fun q => (subsAll l).map raw ++ q
theorem restP_zero (ds : List Doc) (s : List Nat) (y : List Int) : restP ds (0 :: s) y = restP ds s y := by
 show (restP ds s y).map (fun q => (subsAll []).map raw ++ q) = restP ds s y
 cases restP ds s y <;> rfl
theorem restP_start (ds : List Doc) (x : List Int) : restP ds [1] x = (readRow ds x).map fun d => (subs d).map raw := by
 show (match readSome (readDoc ds 40) 1 x with
  | none => none
  | some (l, z) => (restP ds [] z).map fun q => (subsAll l).map raw ++ q) = _
 unfold readRow readSome
 show _ = Option.map _ (match readDoc ds 40 x with
  | some (d, []) => some d
  | _ => none)
 cases readDoc ds 40 x with
 | none => rfl
 | some q =>
  obtain ⟨d, z⟩ := q
  cases z with
  | nil =>
   show some ((subsAll [d]).map raw ++ []) = some ((subs d).map raw)
   rw [subsAll_one, List.append_nil]
  | cons a z => rfl
theorem readSome_le {f : List Int → Option (Doc × List Int)} (hf : ∀ x d y, f x = some (d, y) → y.length < x.length) : ∀ (k : Nat) (x : List Int) (l : List Doc) (y : List Int), readSome f k x = some (l, y) → y.length + k ≤ x.length
 | 0, x, l, y, h => by
  obtain ⟨_, e⟩ := Prod.mk.inj (Option.some.inj h)
  subst e
  exact Nat.le_refl _
 | k + 1, x, l, y, h => by
  unfold readSome at h
  cases e : f x with
  | none => rw [e] at h; cases h
  | some q =>
   obtain ⟨d, z⟩ := q
   rw [e] at h
   cases e2 : readSome f k z with
   | none =>
    have h2 : (readSome f k z).map (fun w => (d :: w.1, w.2)) = some (l, y) := h
    rw [e2] at h2
    cases h2
   | some q2 =>
    obtain ⟨l2, y2⟩ := q2
    have h2 : (readSome f k z).map (fun w => (d :: w.1, w.2)) = some (l, y) := h
    rw [e2] at h2
    obtain ⟨_, e3⟩ := Prod.mk.inj (Option.some.inj h2)
    have e4 : y2 = y := e3
    subst e4
    have a := hf x d z e
    have b := readSome_le hf k z l2 y2 e2
    omega
theorem map_some {α β : Type} {o : Option α} {f : α → β} {b : β} (h : o.map f = some b) : ∃ a, o = some a ∧ f a = b := by
 cases o with
 | none => cases h
 | some a => exact ⟨a, rfl, Option.some.inj h⟩
theorem readDoc_cons (ds : List Doc) (n : Nat) (k : Int) (r : List Int) : readDoc ds (n + 1) (k :: r) =
  if k = 0 then readText r
  else if k = 6 then (match r with
   | c :: r => if c < 0 ∨ (r.length : Int) < c then none else (readSome (readDoc ds n) c.toNat r).map fun y => (.row y.1, y.2)
   | [] => none)
  else if k = 7 then (match r with
   | c :: r => if c < 0 ∨ (SHIFT : Int) < c then none else (readDoc ds n r).map fun y => (.indent c.toNat y.1, y.2)
   | [] => none)
  else if k = 8 then (readDoc ds n r).map fun y => (.align y.1, y.2)
  else if k = 9 then (readDoc ds n r).map fun y => (.group y.1, y.2)
  else if k = 10 then (match r with
   | c :: r => (heldAt ds c).map fun d => (d, r)
   | [] => none)
  else (markOf k).map fun m => (.mark m, r) := by
 by_cases h0 : k = 0
 ·subst h0; rfl
 by_cases h6 : k = 6
 ·subst h6
  cases r with
  | nil => rfl
  | cons c r => rfl
 by_cases h7 : k = 7
 ·subst h7
  cases r with
  | nil => rfl
  | cons c r => rfl
 by_cases h8 : k = 8
 ·subst h8; rfl
 by_cases h9 : k = 9
 ·subst h9; rfl
 by_cases h10 : k = 10
 ·subst h10
  cases r with
  | nil => rfl
  | cons c r => rfl
 rw [if_neg h0, if_neg h6, if_neg h7, if_neg h8, if_neg h9, if_neg h10]
 conv => lhs; unfold readDoc
 split
 ·rename_i e; exact absurd (List.cons.inj e).1 h0
 ·rename_i e; exact absurd (List.cons.inj e).1 h6
 ·rename_i e; exact absurd (List.cons.inj e).1 h7
 ·rename_i e; exact absurd (List.cons.inj e).1 h8
 ·rename_i e; exact absurd (List.cons.inj e).1 h9
 ·rename_i e; exact absurd (List.cons.inj e).1 h10
 ·rename_i e
  obtain ⟨e1, e2⟩ := List.cons.inj e
  subst e1
  subst e2
  rfl
 ·rename_i e; cases e
theorem readText_lt {r : List Int} {d : Doc} {y : List Int} (h : readText r = some (d, y)) : y.length < r.length := by
 cases r with
 | nil => cases h
 | cons n r =>
  simp only [readText] at h
  split at h
  ·cases h
  ·split at h
   ·obtain ⟨_, e⟩ := Prod.mk.inj (Option.some.inj h)
    subst e
    rw [List.length_drop, List.length_cons]
    omega
   ·cases h
theorem readDoc_lt (ds : List Doc) : ∀ (n : Nat) (x : List Int) (d : Doc) (y : List Int), readDoc ds n x = some (d, y) → y.length < x.length
 | 0, x, d, y, h => by cases x <;> cases h
 | n + 1, [], d, y, h => by cases h
 | n + 1, k :: r, d, y, h => by
  rw [readDoc_cons] at h
  rw [List.length_cons]
  split at h
  ·have := readText_lt h; omega
  split at h
  ·cases r with
   | nil => cases h
   | cons c r =>
    simp only at h
    split at h
    ·cases h
    ·obtain ⟨q, e1, e2⟩ := map_some h
     obtain ⟨l, z⟩ := q
     obtain ⟨_, e3⟩ := Prod.mk.inj e2
     have e4 : z = y := e3
     subst e4
     have := readSome_le (readDoc_lt ds n) _ _ _ _ e1
     rw [List.length_cons]
     omega
  split at h
  ·cases r with
   | nil => cases h
   | cons c r =>
    simp only at h
    split at h
    ·cases h
    ·obtain ⟨q, e1, e2⟩ := map_some h
     obtain ⟨l, z⟩ := q
     obtain ⟨_, e3⟩ := Prod.mk.inj e2
     have e4 : z = y := e3
     subst e4
     have := readDoc_lt ds n _ _ _ e1
     rw [List.length_cons]
     omega
  split at h
  ·obtain ⟨q, e1, e2⟩ := map_some h
   obtain ⟨l, z⟩ := q
   obtain ⟨_, e3⟩ := Prod.mk.inj e2
   have e4 : z = y := e3
   subst e4
   have := readDoc_lt ds n _ _ _ e1
   omega
  split at h
  ·obtain ⟨q, e1, e2⟩ := map_some h
   obtain ⟨l, z⟩ := q
   obtain ⟨_, e3⟩ := Prod.mk.inj e2
   have e4 : z = y := e3
   subst e4
   have := readDoc_lt ds n _ _ _ e1
   omega
  split at h
  ·cases r with
   | nil => cases h
   | cons c r =>
    obtain ⟨q, e1, e2⟩ := map_some h
    obtain ⟨_, e3⟩ := Prod.mk.inj e2
    have e4 : r = y := e3
    subst e4
    rw [List.length_cons]
    omega
  ·obtain ⟨q, e1, e2⟩ := map_some h
   obtain ⟨_, e3⟩ := Prod.mk.inj e2
   have e4 : r = y := e3
   subst e4
   omega
theorem byte_back {z : Int} (h0 : 0 ≤ z) (h1 : z ≤ 255) : ((UInt8.ofNat z.toNat).toNat : Int) = z := by
 have h : z.toNat < 256 := by omega
 have e : (UInt8.ofNat z.toNat).toNat = z.toNat := by
  rw [UInt8.toNat_ofNat']
  exact Nat.mod_eq_of_lt h
 rw [e]
 omega
def toB (l : List Int) : Bytes := l.map fun z => UInt8.ofNat z.toNat
theorem ints_back : ∀ {l : List Int}, l.all isByte = true → toInts (toB l) = l
 | [], _ => rfl
 | z :: l, h => by
  rw [List.all_cons, Bool.and_eq_true] at h
  obtain ⟨h1, h2⟩ := h
  unfold isByte at h1
  rw [Bool.and_eq_true] at h1
  have a := byte_back (of_decide_eq_true h1.1) (of_decide_eq_true h1.2)
  show ((UInt8.ofNat z.toNat).toNat : Int) :: toInts (toB l) = z :: l
  rw [a, ints_back h2]
theorem u8_eq {z : Int} (h0 : 0 ≤ z) (h1 : z ≤ 255) {c : Nat} (hc : c < 256) : (UInt8.ofNat z.toNat == UInt8.ofNat c) = decide (z = c) := by
 by_cases e : z = c
 ·subst e
  simp
 ·rw [decide_eq_false e]
  refine beq_eq_false_iff_ne.mpr fun q => e ?_
  have := byte_back h0 h1
  rw [q, UInt8.toNat_ofNat', Nat.mod_eq_of_lt hc] at this
  exact this.symm
theorem contains_ten : ∀ {l : List Int}, l.all isByte = true → (toB l).contains 10 = l.any fun b => decide (b = 10)
 | [], _ => rfl
 | z :: l, h => by
  rw [List.all_cons, Bool.and_eq_true] at h
  obtain ⟨h1, h2⟩ := h
  unfold isByte at h1
  rw [Bool.and_eq_true] at h1
  show (UInt8.ofNat z.toNat :: toB l).contains 10 = _
  rw [List.contains_cons, List.any_cons, contains_ten h2]
  have := u8_eq (of_decide_eq_true h1.1) (of_decide_eq_true h1.2) (c := 10) (by decide)
  congr 1
  exact Bool.beq_comm.trans this
theorem all_split : ∀ l : List Int, (l.all fun b => decide (0 ≤ b) && decide (b ≤ 255) && !decide (b = 10)) = (l.all isByte && !l.any fun b => decide (b = 10))
 | [] => rfl
 | z :: l => by
  rw [List.all_cons, List.all_cons, List.any_cons, all_split l]
  unfold isByte
  cases decide (0 ≤ z) <;> cases decide (z ≤ 255) <;> cases decide (z = 10) <;> cases l.all isByte <;> simp
theorem opt_blank {o : Option Int} (h : ∀ z, o = some z → 0 ≤ z ∧ z ≤ 255) : ((o.map fun z => UInt8.ofNat z.toNat) != some 32) = !(o == some 32) := by
 cases o with
 | none => rfl
 | some z =>
  obtain ⟨a, b⟩ := h z rfl
  have e := u8_eq a b (c := 32) (by decide)
  show (!((some (UInt8.ofNat z.toNat)) == some 32)) = _
  have e1 : (some (UInt8.ofNat z.toNat) == some (32 : UInt8)) = (UInt8.ofNat z.toNat == UInt8.ofNat 32) := rfl
  have e2 : (some z == some (32 : Int)) = decide (z = (32 : Nat)) := by
   show (z == 32) = _
   rw [Bool.eq_iff_iff]
   simp
  rw [e1, e, e2]
theorem isText_eq {l : List Int} (hb : l.all isByte = true) (h1 : 1 ≤ l.length) : isText (toB l) = (decide (l.length ≤ 1000) && textOk l) := by
 have mem : ∀ z ∈ l, 0 ≤ z ∧ z ≤ 255 := fun z hz => by
  have := List.all_eq_true.mp hb z hz
  unfold isByte at this
  rw [Bool.and_eq_true] at this
  exact ⟨of_decide_eq_true this.1, of_decide_eq_true this.2⟩
 have e1 : ((toB l).head? != some 32) = !(l.head? == some 32) := by
  unfold toB
  rw [List.head?_map]
  exact opt_blank fun z hz => mem z (List.mem_of_head? hz)
 have e2 : ((toB l).getLast? != some 32) = !(l.getLast? == some 32) := by
  unfold toB
  rw [List.getLast?_map]
  exact opt_blank fun z hz => mem z (List.mem_of_getLast? hz)
 have e3 : (toB l).length = l.length := by simp [toB]
 have e4 : (toB l).isEmpty = false := by
  cases l with
  | nil => simp at h1
  | cons a l => rfl
 unfold isText textOk
 rw [e1, e2, e3, e4, contains_ten hb, all_split, hb]
 show (!false && decide (l.length ≤ 1000) && _ && _ && _) = _
 cases decide (l.length ≤ 1000) <;> cases (l.any fun b => decide (b = 10)) <;> cases (l.head? == some 32) <;> cases (l.getLast? == some 32) <;> rfl
theorem textOk_bytes {l : List Int} (h : textOk l = true) : l.all isByte = true := by
 unfold textOk at h
 rw [Bool.and_eq_true, all_split, Bool.and_eq_true] at h
 exact h.2.1
theorem readText_eq (n : Int) (r : List Int) : readText (n :: r) = if n < 1 ∨ 1000 < n ∨ (r.length : Int) < n ∨ textOk (r.take n.toNat) = false then none else some (.text (toB (r.take n.toNat)), r.drop n.toNat) := by
 by_cases h : n < 1 ∨ (r.length : Int) < n
 ·simp only [readText]
  rw [if_pos h, if_pos (by rcases h with h | h; exact .inl h; exact .inr (.inr (.inl h)))]
 ·simp only [readText]
  rw [if_neg h]
  have hl : (r.take n.toNat).length = n.toNat := by
   rw [List.length_take]
   omega
  by_cases hb : (r.take n.toNat).all isByte = true
  ·have e := isText_eq hb (by omega)
   unfold toB at e
   rw [hb, e, Bool.true_and]
   by_cases h2 : 1000 < n
   ·rw [decide_eq_false (by omega), Bool.false_and, if_neg (by decide)]
    exact (if_pos (.inr (.inl h2))).symm
   ·rw [decide_eq_true (show (r.take n.toNat).length ≤ 1000 by omega), Bool.true_and]
    cases ht : textOk (r.take n.toNat) with
    | true =>
     rw [if_pos rfl, if_neg (by intro q; rcases q with q | q | q | q; exact h (.inl q); exact h2 q; exact h (.inr q); cases q)]
     rfl
    | false =>
     rw [if_neg (by decide), if_pos (.inr (.inr (.inr rfl)))]
  ·have ht : textOk (r.take n.toNat) = false := by
    cases q : textOk (r.take n.toNat) with
    | false => rfl
    | true => exact absurd (textOk_bytes q) hb
   have hb2 : (r.take n.toNat).all isByte = false := by
    cases q : (r.take n.toNat).all isByte with
    | false => rfl
    | true => exact absurd q hb
   rw [hb2, Bool.false_and, if_neg (by decide)]
   exact (if_pos (.inr (.inr (.inr ht)))).symm
theorem restP_cons (ds : List Doc) (n : Nat) (s : List Nat) (y : List Int) : restP ds (n :: s) y = match readSome (readDoc ds (40 - s.length)) n y with
  | none => none
  | some (l, z) => (restP ds s z).map fun q => (subsAll l).map raw ++ q := rfl
theorem readSome_succ (f : List Int → Option (Doc × List Int)) (k : Nat) (x : List Int) : readSome f (k + 1) x = match f x with
  | none => none
  | some (d, y) => (readSome f k y).map fun z => (d :: z.1, z.2) := rfl
theorem restP_none {ds : List Doc} {n : Nat} {s : List Nat} {y : List Int} (h : readDoc ds (40 - s.length) y = none) : restP ds ((n + 1) :: s) y = none := by
 unfold restP readSome
 rw [h]
theorem restP_some {ds : List Doc} {n : Nat} {s : List Nat} {y z : List Int} {d : Doc} (h : readDoc ds (40 - s.length) y = some (d, z)) : restP ds ((n + 1) :: s) y = (restP ds (n :: s) z).map fun q => (subs d).map raw ++ q := by
 rw [restP_cons, readSome_succ, h, restP_cons]
 simp only
 cases readSome (readDoc ds (40 - s.length)) n z with
 | none => rfl
 | some q =>
  obtain ⟨l, u⟩ := q
  show Option.map _ (restP ds s u) = Option.map _ (Option.map _ (restP ds s u))
  cases restP ds s u with
  | none => rfl
  | some v =>
   show some ((subs d ++ subsAll l).map raw ++ v) = some ((subs d).map raw ++ ((subsAll l).map raw ++ v))
   rw [List.map_append, List.append_assoc]
theorem restP_kids {ds : List Doc} {n m c : Nat} {s : List Nat} {y r : List Int} {p : RawP} {mk : List Doc → Doc} (hm : 40 - s.length = m + 1)
  (h : readDoc ds (m + 1) y = (readSome (readDoc ds m) c r).map fun q => (mk q.1, q.2)) (hk : ∀ l, l.length = c → kids (mk l) = l ∧ raw (mk l) = p) :
  restP ds ((n + 1) :: s) y = (restP ds (c :: n :: s) r).map fun q => p :: q := by
 have lenOf : ∀ (k : Nat) (x : List Int) (l : List Doc) (z : List Int), readSome (readDoc ds m) k x = some (l, z) → l.length = k := by
  intro k
  induction k with
  | zero =>
   intro x l z e
   obtain ⟨e1, _⟩ := Prod.mk.inj (Option.some.inj e)
   rw [← e1]
   rfl
  | succ k ih =>
   intro x l z e
   unfold readSome at e
   cases e1 : readDoc ds m x with
   | none => rw [e1] at e; cases e
   | some q =>
    obtain ⟨d, u⟩ := q
    rw [e1] at e
    obtain ⟨q2, e2, e3⟩ := map_some e
    obtain ⟨e4, _⟩ := Prod.mk.inj e3
    rw [← e4, List.length_cons, ih u q2.1 q2.2 e2]
 cases e : readSome (readDoc ds m) c r with
 | none =>
  rw [e] at h
  rw [restP_none (by rw [hm]; exact h)]
  have e2 : restP ds (c :: n :: s) r = none := by
   show (match readSome (readDoc ds (40 - (n :: s).length)) c r with
    | none => none
    | some (l, z) => (restP ds (n :: s) z).map fun q => (subsAll l).map raw ++ q) = none
   rw [List.length_cons, show 40 - (s.length + 1) = m by omega, e]
  rw [e2]
  rfl
 | some q =>
  obtain ⟨l, z⟩ := q
  rw [e] at h
  have hl := lenOf c r l z e
  obtain ⟨k1, k2⟩ := hk l hl
  rw [restP_some (by rw [hm]; exact h)]
  have e2 : restP ds (c :: n :: s) r = (restP ds (n :: s) z).map fun q => (subsAll l).map raw ++ q := by
   show (match readSome (readDoc ds (40 - (n :: s).length)) c r with
    | none => none
    | some (l, z) => (restP ds (n :: s) z).map fun q => (subsAll l).map raw ++ q) = _
   rw [List.length_cons, show 40 - (s.length + 1) = m by omega, e]
  rw [e2]
  cases restP ds (n :: s) z with
  | none => rfl
  | some v =>
   show some ((subs (mk l)).map raw ++ v) = some (p :: ((subsAll l).map raw ++ v))
   rw [subs_eq, k1, List.map_cons, k2]
   rfl
theorem restP_deep {ds : List Doc} {n : Nat} {s : List Nat} {y : List Int} (h : 39 < s.length) : restP ds ((n + 1) :: s) y = none := by
 refine restP_none ?_
 rw [show 40 - s.length = 0 by omega]
 cases y <;> rfl
theorem restP_mono {ds : List Doc} {c : Nat} {s : List Nat} {r : List Int} (h : r.length < c) : restP ds (c :: s) r = none := by
 show (match readSome (readDoc ds (40 - s.length)) c r with
  | none => none
  | some (l, z) => (restP ds s z).map fun q => (subsAll l).map raw ++ q) = none
 cases e : readSome (readDoc ds (40 - s.length)) c r with
 | none => rfl
 | some q =>
  obtain ⟨l, z⟩ := q
  have := readSome_le (readDoc_lt ds _) _ _ _ _ e
  omega
theorem restP_step (ds : List Doc) (n : Nat) (s : List Nat) (y : List Int) (hs : s.length ≤ 39) : restP ds ((n + 1) :: s) y = match headPart ds.length y with
  | none => none
  | some (p, z) => (restP ds ((inner p).toNat :: n :: s) z).map fun q => spell1 ds p ++ q := by
 obtain ⟨m, hm⟩ : ∃ m, 40 - s.length = m + 1 := ⟨39 - s.length, by omega⟩
 cases y with
 | nil =>
  rw [restP_none (by rw [hm]; rfl)]
  rfl
 | cons k r =>
  have hd := readDoc_cons ds m k r
  by_cases hk : k < 0 ∨ 10 < k
  ·have e : headPart ds.length (k :: r) = none := if_pos hk
   rw [e]
   refine restP_none ?_
   rw [hm, hd, if_neg (by omega), if_neg (by omega), if_neg (by omega), if_neg (by omega), if_neg (by omega), if_neg (by omega)]
   unfold markOf
   rw [if_neg (by omega), if_neg (by omega), if_neg (by omega), if_neg (by omega), if_neg (by omega)]
   rfl
  by_cases hn : k = 0 ∨ k = 6 ∨ k = 7 ∨ k = 10
  ·cases r with
   | nil =>
    have e : headPart ds.length [k] = none := by
     simp only [headPart]
     rw [if_neg hk, if_pos hn]
    rw [e]
    refine restP_none ?_
    rw [hm, hd]
    rcases hn with rfl | rfl | rfl | rfl <;> rfl
   | cons c r =>
    have e : headPart ds.length (k :: c :: r) = if numberRight k c ds.length = false then none
      else if k ≠ 0 then some (⟨k, c, []⟩, r)
      else if (r.length : Int) < c ∨ textOk (r.take c.toNat) = false then none
      else some (⟨k, c, r.take c.toNat⟩, r.drop c.toNat) := by
     conv => lhs; simp only [headPart]
     rw [if_neg hk, if_pos hn]
    rw [e]
    rcases hn with rfl | rfl | rfl | rfl
    ·-- a text
     rw [if_pos rfl, readText_eq] at hd
     have nr : numberRight 0 c ds.length = (decide (1 ≤ c) && decide (c ≤ 1000)) := rfl
     by_cases h1 : c < 1 ∨ 1000 < c
     ·rw [if_pos (show numberRight 0 c ds.length = false by rw [nr, Bool.and_eq_false_iff]; rcases h1 with h1 | h1; exact .inl (decide_eq_false (by omega)); exact .inr (decide_eq_false (by omega)))]
      refine restP_none ?_
      rw [hm, hd, if_pos (by rcases h1 with h1 | h1; exact .inl h1; exact .inr (.inl h1))]
     ·rw [if_neg (show ¬ numberRight 0 c ds.length = false by rw [nr, decide_eq_true (by omega), decide_eq_true (by omega)]; decide), if_neg (by simp)]
      by_cases h2 : (r.length : Int) < c ∨ textOk (r.take c.toNat) = false
      ·rw [if_pos h2]
       refine restP_none ?_
       rw [hm, hd, if_pos (.inr (.inr h2))]
      ·rw [if_neg h2]
       rw [if_neg (by intro q; rcases q with q | q | q; exact h1 (.inl q); exact h1 (.inr q); exact h2 q)] at hd
       rw [restP_some (by rw [hm]; exact hd)]
       show _ = Option.map _ (restP ds (0 :: n :: s) (r.drop c.toNat))
       rw [restP_zero]
       have et : textOk (r.take c.toNat) = true := by
        cases q : textOk (r.take c.toNat) with
        | true => rfl
        | false => exact absurd (.inr q) h2
       have el : (r.take c.toNat).length = c.toNat := by
        rw [List.length_take]
        have : ¬ (r.length : Int) < c := fun q => h2 (.inl q)
        omega
       have e3 : (subs (Doc.text (toB (r.take c.toNat)))).map raw = spell1 ds ⟨0, c, r.take c.toNat⟩ := by
        show [RawP.mk 0 ((toB (r.take c.toNat)).length : Int) (toInts (toB (r.take c.toNat)))] = [_]
        rw [ints_back (textOk_bytes et)]
        have : ((toB (r.take c.toNat)).length : Int) = c := by
         unfold toB
         rw [List.length_map, el]
         omega
        rw [this]
       rw [e3]
    ·-- a row
     rw [if_neg (by decide), if_pos rfl] at hd
     have nr : numberRight 6 c ds.length = decide (0 ≤ c) := rfl
     by_cases h1 : c < 0
     ·rw [if_pos (by rw [nr]; exact decide_eq_false (by omega))]
      refine restP_none ?_
      rw [hm, hd]
      exact if_pos (.inl h1)
     ·rw [if_neg (by rw [nr, decide_eq_true (by omega)]; decide), if_pos (by decide)]
      show _ = Option.map _ (restP ds (c.toNat :: n :: s) r)
      by_cases h2 : (r.length : Int) < c
      ·rw [restP_none (s := s) (by rw [hm, hd]; exact if_pos (.inr h2)), restP_mono (c := c.toNat) (r := r) (by omega)]
       rfl
      ·refine restP_kids (mk := .row) hm (hd.trans (if_neg (by intro q; rcases q with q | q; exact h1 q; exact h2 q))) fun l hl => ⟨rfl, ?_⟩
       show RawP.mk 6 (l.length : Int) [] = ⟨6, c, []⟩
       rw [hl, show ((c.toNat : Nat) : Int) = c by omega]
    ·-- an indented one
     rw [if_neg (by decide), if_neg (by decide), if_pos rfl] at hd
     have nr : numberRight 7 c ds.length = (decide (0 ≤ c) && decide (c ≤ 8)) := rfl
     by_cases h1 : c < 0 ∨ 8 < c
     ·rw [if_pos (by rw [nr, Bool.and_eq_false_iff]; rcases h1 with h1 | h1; exact .inl (decide_eq_false (by omega)); exact .inr (decide_eq_false (by omega)))]
      refine restP_none ?_
      rw [hm, hd]
      exact if_pos h1
     ·rw [if_neg (by rw [nr, decide_eq_true (by omega), decide_eq_true (by omega)]; decide), if_pos (by decide)]
      show _ = Option.map _ (restP ds (1 :: n :: s) r)
      refine restP_kids (mk := fun l => match l with | [d] => .indent c.toNat d | _ => .mark .blank) hm (hd.trans ((if_neg h1).trans ?_)) fun l hl => ?_
      ·show _ = Option.map _ (match readDoc ds m r with
        | none => none
        | some (d, y) => some ([d], y))
       cases readDoc ds m r <;> rfl
      ·match l, hl with
       | [d], _ =>
        refine ⟨rfl, ?_⟩
        show RawP.mk 7 (c.toNat : Int) [] = ⟨7, c, []⟩
        rw [show ((c.toNat : Nat) : Int) = c by omega]
    ·-- a name
     rw [if_neg (by decide), if_neg (by decide), if_neg (by decide), if_neg (by decide), if_neg (by decide), if_pos rfl] at hd
     have nr : numberRight 10 c ds.length = (decide (0 ≤ c) && decide (c < ds.length)) := rfl
     by_cases h1 : 0 ≤ c ∧ c < ds.length
     ·rw [if_neg (by rw [nr, decide_eq_true h1.1, decide_eq_true h1.2]; decide), if_pos (by decide)]
      have hg : ds[c.toNat]? = some (ds[c.toNat]'(by omega)) := List.getElem?_eq_getElem (by omega)
      have e2 : heldAt ds c = some (ds[c.toNat]'(by omega)) := by
       unfold heldAt
       rw [if_neg (by omega), hg]
      simp only [e2, Option.map_some] at hd
      rw [restP_some (by rw [hm]; exact hd)]
      show _ = Option.map _ (restP ds (0 :: n :: s) r)
      rw [restP_zero]
      have e3 : spell1 ds ⟨10, c, []⟩ = (subs (ds[c.toNat]'(by omega))).map raw := by
       unfold spell1
       rw [if_pos rfl, hg]
      rw [e3]
     ·rw [if_pos (by
       rw [nr, Bool.and_eq_false_iff]
       by_cases h2 : 0 ≤ c
       ·exact .inr (decide_eq_false (fun q => h1 ⟨h2, q⟩))
       ·exact .inl (decide_eq_false h2))]
      refine restP_none ?_
      have e2 : heldAt ds c = none := by
       unfold heldAt
       by_cases h2 : c < 0
       ·rw [if_pos h2]
       ·rw [if_neg h2]
        exact List.getElem?_eq_none_iff.mpr (by omega)
      simp only [e2, Option.map_none] at hd
      rw [hm]
      exact hd
  ·have e : headPart ds.length (k :: r) = some (⟨k, 0, []⟩, r) := by
    simp only [headPart]
    rw [if_neg hk, if_neg hn]
   rw [e]
   have e3 : spell1 ds ⟨k, 0, []⟩ = [⟨k, 0, []⟩] := if_neg (fun q => hn (.inr (.inr (.inr q))))
   by_cases h8 : k = 8
   ·subst h8
    show _ = Option.map _ (restP ds (1 :: n :: s) r)
    refine restP_kids (mk := fun l => match l with | [d] => .align d | _ => .mark .blank) hm (hd.trans ?_) fun l hl => ?_
    ·show _ = Option.map _ (match readDoc ds m r with
      | none => none
      | some (d, y) => some ([d], y))
     cases readDoc ds m r <;> rfl
    ·match l, hl with
     | [d], _ => exact ⟨rfl, rfl⟩
   by_cases h9 : k = 9
   ·subst h9
    show _ = Option.map _ (restP ds (1 :: n :: s) r)
    refine restP_kids (mk := fun l => match l with | [d] => .group d | _ => .mark .blank) hm (hd.trans ?_) fun l hl => ?_
    ·show _ = Option.map _ (match readDoc ds m r with
      | none => none
      | some (d, y) => some ([d], y))
     cases readDoc ds m r <;> rfl
    ·match l, hl with
     | [d], _ => exact ⟨rfl, rfl⟩
   have ei : (inner ⟨k, 0, []⟩).toNat = 0 := by
    unfold inner
    rw [if_neg (fun q => hn (.inr (.inl q))), if_neg (by intro q; rcases q with q | q | q; exact hn (.inr (.inr (.inl q))); exact h8 q; exact h9 q)]
    rfl
   show _ = Option.map _ (restP ds ((inner ⟨k, 0, []⟩).toNat :: n :: s) r)
   rw [ei, restP_zero, e3]
   have hk5 : k = 1 ∨ k = 2 ∨ k = 3 ∨ k = 4 ∨ k = 5 := by omega
   rcases hk5 with rfl | rfl | rfl | rfl | rfl <;> exact (restP_some (by rw [hm]; exact hd)).trans rfl
end WL
set_option linter.all false
namespace WL
open Vafmtb
def cmdParts (l : List Cmd) : List Doc := l.flatMap fun c => subs c.doc
def flagged (l : List Cmd) : List (Doc × Bool) := l.flatMap fun c => (subs c.doc).map fun d => (d, c.flat)
theorem cmdParts_cons (c : Cmd) (r : List Cmd) : cmdParts (c :: r) = c.doc :: (subsAll (kids c.doc) ++ cmdParts r) := by
 show subs c.doc ++ cmdParts r = _
 rw [subs_eq]
 rfl
theorem cmdParts_put (i : Nat) (f : Bool) (l : List Doc) (r : List Cmd) : cmdParts (put i f l r) = subsAll l ++ cmdParts r := by
 induction l with
 | nil => rfl
 | cons d l ih =>
  show subs d ++ cmdParts (put i f l r) = (subs d ++ subsAll l) ++ cmdParts r
  rw [ih, List.append_assoc]
theorem flagged_put (i : Nat) (f : Bool) (l : List Doc) (r : List Cmd) : flagged (put i f l r) = ((subsAll l).map fun d => (d, f)) ++ flagged r := by
 induction l with
 | nil => rfl
 | cons d l ih =>
  show ((subs d).map fun d => (d, f)) ++ flagged (put i f l r) = ((subs d ++ subsAll l).map fun d => (d, f)) ++ flagged r
  rw [ih, List.map_append, List.append_assoc]
theorem flagged_cons (c : Cmd) (r : List Cmd) : flagged (c :: r) = (c.doc, c.flat) :: (((subsAll (kids c.doc)).map fun d => (d, c.flat)) ++ flagged r) := by
 show ((subs c.doc).map fun d => (d, c.flat)) ++ flagged r = _
 rw [subs_eq]
 rfl
theorem flagged_one (i : Nat) (f : Bool) (d : Doc) (r : List Cmd) : flagged ({ ind := i, flat := f, doc := d } :: r) = ((subsAll [d]).map fun d => (d, f)) ++ flagged r := by
 rw [subsAll_one]
 rfl
theorem foldl_add : ∀ (l : List Nat) (a : Nat), l.foldl (fun (a b : Nat) => a + b) a = a + l.foldl (fun (a b : Nat) => a + b) 0
 | [], a => rfl
 | x :: l, a => by
  rw [List.foldl_cons, List.foldl_cons, foldl_add l (a + x), foldl_add l (0 + x)]
  omega
theorem weight_cons (c : Cmd) (r : List Cmd) : weight (c :: r) = c.doc.size + weight r := by
 unfold weight
 rw [List.map_cons, List.foldl_cons, foldl_add]
 omega
theorem weight_eq : ∀ l : List Cmd, weight l = (flagged l).length
 | [] => rfl
 | c :: r => by
  rw [weight_cons, weight_eq r]
  show _ = (((subs c.doc).map fun d => (d, c.flat)) ++ flagged r).length
  rw [List.length_append, List.length_map, subs_length]
theorem step_cmds (w : Nat) (m : Mach) (c : Cmd) (r : List Cmd) (h : m.cmds = c :: r) : ∃ i f, (step1 w m).cmds = put i f (kids c.doc) r ∧ (c.flat = true → f = true) := by
 obtain ⟨ci, cf, d⟩ := c
 unfold step1
 rw [h]
 cases d with
 | text t =>
  refine ⟨0, true, ?_, fun _ => rfl⟩
  show (write { m with cmds := r } t).cmds = r
  unfold write
  cases m.held <;> rfl
 | mark k =>
  refine ⟨0, true, ?_, fun _ => rfl⟩
  cases k with
  | blank => rfl
  | soft => cases cf <;> rfl
  | line => cases cf <;> rfl
  | hard => rfl
  | gap => rfl
 | row l => exact ⟨ci, cf, rfl, fun q => q⟩
 | indent k d => exact ⟨ci + k, cf, rfl, fun q => q⟩
 | align d => exact ⟨placeOf m.col m.held, cf, rfl, fun q => q⟩
 | group d =>
  refine ⟨ci, cf || (!d.forced && fits w m ci d r), rfl, fun q => ?_⟩
  have q' : cf = true := q
  rw [q']
  rfl
theorem step_nil (w : Nat) (m : Mach) (h : m.cmds = []) : step1 w m = m := by
 unfold step1
 rw [h]
def FlatFirst : List Cmd → Prop
 | [] => True
 | c :: r => (c.flat = true ∨ ∀ x ∈ r, x.flat = false) ∧ FlatFirst r
theorem flatFirst_put {i : Nat} {f : Bool} {r : List Cmd} (hr : FlatFirst r) (h : f = true ∨ ∀ x ∈ r, x.flat = false) : ∀ l : List Doc, FlatFirst (put i f l r)
 | [] => hr
 | d :: l => by
  refine ⟨?_, flatFirst_put hr h l⟩
  cases f with
  | true => exact .inl rfl
  | false =>
   rcases h with h | h
   ·cases h
   ·refine .inr fun x hx => ?_
    rcases List.mem_append.mp hx with hx | hx
    ·obtain ⟨e, _, rfl⟩ := List.mem_map.mp hx
     rfl
    ·exact h x hx
structure Goes (root : Doc) (n : Nat) (m : Mach) : Prop where
 parts : cmdParts m.cmds = (subs root).drop n
 ff : FlatFirst m.cmds
theorem goes_begun (root : Doc) (f : Bool) : Goes root 0 { cmds := [{ ind := 0, flat := f, doc := root }] } :=
 ⟨List.append_nil _, ⟨.inr fun x hx => (by cases hx), trivial⟩⟩
theorem Goes.step {root : Doc} {n : Nat} {m : Mach} (g : Goes root n m) (w : Nat) (h : m.cmds ≠ []) : Goes root (n + 1) (step1 w m) := by
 cases e : m.cmds with
 | nil => exact absurd e h
 | cons c r =>
  obtain ⟨i, f, e1, e2⟩ := step_cmds w m c r e
  have g1 := g.parts
  rw [e, cmdParts_cons] at g1
  have g2 := g.ff
  rw [e] at g2
  refine ⟨?_, ?_⟩
  ·rw [e1, cmdParts_put, ← List.drop_drop, ← g1]
   rfl
  ·rw [e1]
   refine flatFirst_put g2.2 ?_ _
   rcases g2.1 with q | q
   ·exact .inl (e2 q)
   ·exact .inr q
theorem Goes.first {root : Doc} {n : Nat} {m : Mach} (g : Goes root n m) {c : Cmd} {r : List Cmd} (e : m.cmds = c :: r) : (subs root)[n]? = some c.doc ∧ n < root.size := by
 have g1 := g.parts
 rw [e, cmdParts_cons] at g1
 have h2 : ((subs root).drop n)[0]? = some c.doc := by rw [← g1]; rfl
 rw [List.getElem?_drop] at h2
 refine ⟨h2, ?_⟩
 have := (List.getElem?_eq_some_iff.mp h2).1
 rw [subs_length] at this
 exact this
theorem Goes.nil_iff {root : Doc} {n : Nat} {m : Mach} (g : Goes root n m) : m.cmds = [] ↔ root.size ≤ n := by
 constructor
 ·intro e
  have g1 := g.parts
  rw [e] at g1
  have := List.drop_eq_nil_iff.mp g1.symm
  rw [subs_length] at this
  exact this
 ·intro h
  have g1 := g.parts
  rw [List.drop_eq_nil_of_le (by rw [subs_length]; exact h)] at g1
  cases e : m.cmds with
  | nil => rfl
  | cons c r =>
   rw [e, cmdParts_cons] at g1
   cases g1
theorem stepsOf_succ (w : Nat) : ∀ (k : Nat) (m : Mach), stepsOf w (k + 1) m = step1 w (stepsOf w k m)
 | 0, m => rfl
 | k + 1, m => by
  show stepsOf w (k + 1) (step1 w m) = step1 w (stepsOf w k (step1 w m))
  exact stepsOf_succ w k (step1 w m)
theorem flagged_not {r : List Cmd} (h : ∀ x ∈ r, x.flat = false) : flagged r = (cmdParts r).map fun d => (d, false) := by
 induction r with
 | nil => rfl
 | cons c r ih =>
  show ((subs c.doc).map fun d => (d, c.flat)) ++ flagged r = (subs c.doc ++ cmdParts r).map fun d => (d, false)
  rw [ih fun x hx => h x (List.mem_cons_of_mem _ hx), h c (List.mem_cons_self ..), List.map_append]
end WL
set_option linter.all false
namespace WL
open Vafmtb
def lens (l : List Bytes) : Nat := (l.map List.length).foldl (fun (a b : Nat) => a + b) 0
theorem lens_append (a b : List Bytes) : lens (a ++ b) = lens a + lens b := by
 unfold lens
 rw [List.map_append, List.foldl_append, foldl_add]
theorem lens_one (t : Bytes) : lens [t] = t.length := Nat.zero_add _
def textLen (d : Doc) : Nat := (raw d).text.length
theorem ints_length (t : Bytes) : (toInts t).length = t.length := List.length_map ..
theorem sumN_append (a b : List Nat) : (a ++ b).sum = a.sum + b.sum := by simp
mutual
theorem bytes_subs : ∀ d : Doc, ((subs d).map textLen).sum = lens d.texts
 | .text t => by
  show textLen (.text t) + 0 = lens [t]
  rw [lens_one, Nat.add_zero]
  exact ints_length t
 | .mark m => by cases m <;> rfl
 | .row l => by
  show 0 + ((subsAll l).map textLen).sum = lens (textsAll l)
  rw [Nat.zero_add, bytes_subsAll l]
 | .indent n d => by
  show 0 + ((subs d).map textLen).sum = lens d.texts
  rw [Nat.zero_add, bytes_subs d]
 | .align d => by
  show 0 + ((subs d).map textLen).sum = lens d.texts
  rw [Nat.zero_add, bytes_subs d]
 | .group d => by
  show 0 + ((subs d).map textLen).sum = lens d.texts
  rw [Nat.zero_add, bytes_subs d]
theorem bytes_subsAll : ∀ l : List Doc, ((subsAll l).map textLen).sum = lens (textsAll l)
 | [] => rfl
 | d :: l => by
  show ((subs d ++ subsAll l).map textLen).sum = lens (d.texts ++ textsAll l)
  rw [List.map_append, sumN_append, lens_append, bytes_subs d, bytes_subsAll l]
end
theorem bytes_eq (d : Doc) : ((subs d).map textLen).sum = d.bytes := bytes_subs d
theorem bytesI : ∀ l : List Doc, (l.map fun e => ((raw e).text.length : Int)).sum = (((l.map textLen).sum : Nat) : Int)
 | [] => rfl
 | e :: l => by
  rw [List.map_cons, List.sum_cons, bytesI l, List.map_cons, List.sum_cons]
  show _ = ((textLen e + (l.map textLen).sum : Nat) : Int)
  unfold textLen
  omega
theorem mem_sum : ∀ {l : List Nat} {x : Nat}, x ∈ l → x ≤ l.sum
 | [], x, h => by cases h
 | a :: l, x, h => by
  rw [List.sum_cons]
  rcases List.mem_cons.mp h with rfl | h
  ·omega
  ·have := mem_sum h
   omega
theorem text_le {d e : Doc} (h : e ∈ subs d) : (raw e).text.length ≤ d.bytes := by
 rw [← bytes_eq]
 exact mem_sum (List.mem_map.mpr ⟨e, h, rfl⟩)
def isGroup (d : Doc) : Bool := decide ((raw d).kind = 9)
mutual
theorem groups_subs : ∀ d : Doc, d.groups.length = ((subs d).filter isGroup).length
 | .text t => rfl
 | .mark m => by cases m <;> rfl
 | .row l => groups_subsAll l
 | .indent n d => groups_subs d
 | .align d => groups_subs d
 | .group d => by
  show d.groups.length + 1 = ((subs d).filter isGroup).length + 1
  rw [groups_subs d]
theorem groups_subsAll : ∀ l : List Doc, (groupsAll l).length = ((subsAll l).filter isGroup).length
 | [] => rfl
 | d :: l => by
  show (d.groups ++ groupsAll l).length = ((subs d ++ subsAll l).filter isGroup).length
  rw [List.length_append, List.filter_append, List.length_append, groups_subs d, groups_subsAll l]
end
def natsI (l : List Nat) : List Int := l.map fun (n : Nat) => (n : Int)
mutual
theorem told_subs : ∀ d : Doc, natsI d.told = (subs d).flatMap fun e => numbersOf (raw e)
 | .text t => by
  show (0 : Int) :: (t.length : Int) :: natsI (t.map fun b => b.toNat) = (numbersOf (raw (.text t))) ++ []
  rw [List.append_nil]
  show _ = (0 : Int) :: (t.length : Int) :: toInts t
  unfold natsI toInts
  rw [List.map_map]
  rfl
 | .mark m => by cases m <;> rfl
 | .row l => by
  show (6 : Int) :: (l.length : Int) :: natsI (toldAll l) = [(6 : Int), (l.length : Int)] ++ _
  rw [told_subsAll l]
  rfl
 | .indent n d => by
  show (7 : Int) :: (n : Int) :: natsI d.told = [(7 : Int), (n : Int)] ++ _
  rw [told_subs d]
  rfl
 | .align d => by
  show (8 : Int) :: natsI d.told = [(8 : Int)] ++ _
  rw [told_subs d]
  rfl
 | .group d => by
  show (9 : Int) :: natsI d.told = [(9 : Int)] ++ _
  rw [told_subs d]
  rfl
theorem told_subsAll : ∀ l : List Doc, natsI (toldAll l) = (subsAll l).flatMap fun e => numbersOf (raw e)
 | [] => rfl
 | d :: l => by
  show natsI (d.told ++ toldAll l) = (subs d ++ subsAll l).flatMap fun e => numbersOf (raw e)
  unfold natsI
  rw [List.map_append, List.flatMap_append]
  have e1 := told_subs d
  have e2 := told_subsAll l
  unfold natsI at e1 e2
  rw [e1, e2]
end
structure PartGood (p : RawP) : Prop where
 ind : p.kind = 7 → p.number ≤ 8
 txt : p.kind = 0 → textOk p.text = true ∧ 1 ≤ p.text.length
structure Good (d : Doc) : Prop where
 size : d.size ≤ 600
 depth : d.depth ≤ 40
 bytes : d.bytes ≤ 4000
 parts : ∀ e ∈ subs d, PartGood (raw e)
theorem good_of {d : Doc} (h : tooLarge d = false) (hi : ∀ e ∈ subs d, PartGood (raw e)) : Good d := by
 unfold tooLarge at h
 rw [Bool.or_eq_false_iff, Bool.or_eq_false_iff] at h
 obtain ⟨⟨h1, h2⟩, h3⟩ := h
 have a := of_decide_eq_false h1
 have b := of_decide_eq_false h2
 have c := of_decide_eq_false h3
 unfold PARTS at a
 unfold DEEP at b
 unfold FULL at c
 exact ⟨by omega, by omega, by omega, hi⟩
end WL
set_option linter.all false
namespace WL
open Vafmtb
structure HeadOk (held : Nat) (y : List Int) (p : RawP) (z : List Int) : Prop where
 rest : z = y.drop (numbersOf p).length
 le : (numbersOf p).length ≤ y.length
 pos : 1 ≤ (numbersOf p).length
 text : p.text.length ≤ 1000
 inn : 0 ≤ inner p
 name : p.kind = 10 → 0 ≤ p.number ∧ p.number < held
 good : PartGood p
theorem headPart_ok {held : Nat} {y : List Int} {p : RawP} {z : List Int} (h : headPart held y = some (p, z)) : HeadOk held y p z := by
 cases y with
 | nil => cases h
 | cons k r =>
  simp only [headPart] at h
  by_cases hk : k < 0 ∨ 10 < k
  ·rw [if_pos hk] at h
   cases h
  rw [if_neg hk] at h
  by_cases hn : k = 0 ∨ k = 6 ∨ k = 7 ∨ k = 10
  ·rw [if_pos hn] at h
   cases r with
   | nil => cases h
   | cons n r =>
    simp only at h
    by_cases hr : numberRight k n held = false
    ·rw [if_pos hr] at h
     cases h
    rw [if_neg hr] at h
    have hr' : numberRight k n held = true := by
     cases q : numberRight k n held with
     | true => rfl
     | false => exact absurd q hr
    by_cases h0 : k ≠ 0
    ·rw [if_pos h0] at h
     obtain ⟨e1, e2⟩ := Prod.mk.inj (Option.some.inj h)
     subst e1 e2
     have en : numbersOf ⟨k, n, []⟩ = [k, n] := if_pos hn
     refine ⟨by rw [en]; rfl, by rw [en]; simp, by rw [en]; simp, Nat.zero_le _, ?_, fun e => ?_, ⟨fun e => ?_, fun e => absurd e h0⟩⟩
     ·unfold inner
      have : k ≠ 0 → 0 ≤ n := by
       intro _
       unfold numberRight at hr'
       rcases hn with rfl | rfl | rfl | rfl
       ·exact absurd rfl h0
       ·rw [if_neg (by decide), if_neg (by decide), if_neg (by decide)] at hr'
        exact of_decide_eq_true hr'
       ·rw [if_neg (by decide), if_pos rfl, Bool.and_eq_true] at hr'
        exact of_decide_eq_true hr'.1
       ·rw [if_neg (by decide), if_neg (by decide), if_pos rfl, Bool.and_eq_true] at hr'
        exact of_decide_eq_true hr'.1
      have := this h0
      split
      ·exact this
      ·split <;> omega
     ·have e' : k = 10 := e
      subst e'
      unfold numberRight at hr'
      rw [if_neg (by decide), if_neg (by decide), if_pos rfl, Bool.and_eq_true] at hr'
      exact ⟨of_decide_eq_true hr'.1, of_decide_eq_true hr'.2⟩
     ·have e' : k = 7 := e
      subst e'
      unfold numberRight at hr'
      rw [if_neg (by decide), if_pos rfl, Bool.and_eq_true] at hr'
      exact of_decide_eq_true hr'.2
    ·have h0' : k = 0 := by omega
     subst h0'
     rw [if_neg h0] at h
     by_cases h2 : (r.length : Int) < n ∨ textOk (r.take n.toNat) = false
     ·rw [if_pos h2] at h
      cases h
     ·rw [if_neg h2] at h
      obtain ⟨e1, e2⟩ := Prod.mk.inj (Option.some.inj h)
      subst e1 e2
      unfold numberRight at hr'
      rw [if_pos rfl, Bool.and_eq_true] at hr'
      have n1 := of_decide_eq_true hr'.1
      have n2 := of_decide_eq_true hr'.2
      have hl : (r.take n.toNat).length = n.toNat := by
       rw [List.length_take]
       have : ¬ (r.length : Int) < n := fun q => h2 (.inl q)
       omega
      have en : (numbersOf ⟨0, n, r.take n.toNat⟩).length = n.toNat + 2 := by
       show (0 :: n :: r.take n.toNat).length = _
       rw [List.length_cons, List.length_cons, hl]
      refine ⟨by rw [en]; rfl, ?_, by omega, ?_, Int.le_refl 0, fun e => absurd e (by show ¬ (0 : Int) = 10; decide), ⟨fun e => absurd e (by show ¬ (0 : Int) = 7; decide), fun _ => ⟨?_, ?_⟩⟩⟩
      ·rw [en, List.length_cons, List.length_cons]
       have : ¬ (r.length : Int) < n := fun q => h2 (.inl q)
       omega
      ·show (r.take n.toNat).length ≤ 1000
       omega
      ·show textOk (r.take n.toNat) = true
       cases q : textOk (r.take n.toNat) with
       | true => rfl
       | false => exact absurd (.inr q) h2
      ·show 1 ≤ (r.take n.toNat).length
       omega
  ·rw [if_neg hn] at h
   obtain ⟨e1, e2⟩ := Prod.mk.inj (Option.some.inj h)
   subst e1 e2
   have en : numbersOf ⟨k, 0, []⟩ = [k] := if_neg hn
   refine ⟨by rw [en]; rfl, by rw [en]; simp, by rw [en]; simp, Nat.zero_le _, ?_, fun e => absurd (.inr (.inr (.inr e))) hn, ⟨fun e => absurd (.inr (.inr (.inl e))) hn, fun e => absurd (.inl e) hn⟩⟩
   unfold inner
   split
   ·exact Int.le_refl _
   ·split <;> omega
end WL
set_option linter.all false
set_option maxRecDepth 100000
namespace WL
open Vafmtb
def costs (l : List Doc) : Nat := (l.map fun e => textLen e + 9).sum
theorem costs_append (a b : List Doc) : costs (a ++ b) = costs a + costs b := by
 unfold costs
 rw [List.map_append, sumN_append]
theorem costs_eq : ∀ l : List Doc, costs l = (l.map textLen).sum + 9 * l.length
 | [] => rfl
 | e :: l => by
  have := costs_eq l
  unfold costs at this ⊢
  rw [List.map_cons, List.sum_cons, this, List.map_cons, List.sum_cons, List.length_cons]
  omega
def bnd (root : Doc) (n : Nat) : Nat := costs ((subs root).take n)
theorem bnd_succ {root e : Doc} {n : Nat} (h : (subs root)[n]? = some e) : bnd root (n + 1) = bnd root n + (textLen e + 9) := by
 unfold bnd
 rw [List.take_succ, h, Option.toList_some, costs_append]
 rfl
theorem bnd_le {root : Doc} (g : Good root) (n : Nat) : bnd root n ≤ 9400 := by
 have h1 : costs (subs root) ≤ 9400 := by
  rw [costs_eq, bytes_eq, subs_length]
  have := g.size
  have := g.bytes
  omega
 have h2 : costs (subs root) = costs ((subs root).take n) + costs ((subs root).drop n) := by
  rw [← costs_append, List.take_append_drop]
 unfold bnd
 omega
structure Bnd (root : Doc) (n : Nat) (m : Mach) : Prop where
 col : m.col ≤ bnd root n
 ind : ∀ c ∈ m.cmds, c.ind ≤ bnd root n
 held : heldAtOf m.held ≤ bnd root n
 out : m.out.length ≤ n * 14000
theorem bnd_begun (root : Doc) (f : Bool) : Bnd root 0 { cmds := [{ ind := 0, flat := f, doc := root }] } :=
 ⟨Nat.zero_le _, fun c hc => by rw [List.mem_singleton.mp hc]; exact Nat.zero_le _, Nat.zero_le _, Nat.zero_le _⟩
theorem placeOf_le {c b : Nat} {h : Held} (hc : c ≤ b) (hh : heldAtOf h ≤ b) : placeOf c h ≤ b + 1 := by
 cases h with
 | nothing => exact Nat.le_succ_of_le hc
 | blank => exact Nat.succ_le_succ hc
 | newline i => exact Nat.le_succ_of_le hh
 | empty i => exact Nat.le_succ_of_le hh
theorem blank_le {c b : Nat} {h : Held} (hh : heldAtOf h ≤ b) : heldAtOf (blankComes c h) ≤ b := by
 unfold blankComes
 split
 ·exact Nat.zero_le _
 ·exact hh
theorem break_le {c i b : Nat} {h : Held} (hi : i ≤ b) (hh : heldAtOf h ≤ b) : heldAtOf (breakComes c i h) ≤ b := by
 unfold breakComes
 split
 ·exact hh
 ·cases h <;> exact hi
theorem gap_le {c i b : Nat} {h : Held} (hi : i ≤ b) (hh : heldAtOf h ≤ b) : heldAtOf (gapComes c i h) ≤ b := by
 unfold gapComes
 split
 ·exact hh
 ·exact hi
theorem put_ind {i b : Nat} {f : Bool} {l : List Doc} {r : List Cmd} (hi : i ≤ b) (hr : ∀ c ∈ r, c.ind ≤ b) : ∀ c ∈ put i f l r, c.ind ≤ b := by
 intro c hc
 rcases List.mem_append.mp hc with hc | hc
 ·obtain ⟨d, _, rfl⟩ := List.mem_map.mp hc
  exact hi
 ·exact hr c hc
theorem Bnd.step {root : Doc} {n : Nat} {m : Mach} (g : Good root) (gs : Goes root n m) (b : Bnd root n m) (w : Nat) (h : m.cmds ≠ []) : Bnd root (n + 1) (step1 w m) := by
 cases e : m.cmds with
 | nil => exact absurd e h
 | cons c r =>
  obtain ⟨hf, hn⟩ := gs.first e
  have hb := bnd_succ hf
  have hle := bnd_le g n
  have h1 := b.col
  have h2 := b.held
  have h3 := b.out
  have hi : c.ind ≤ bnd root n := b.ind c (by rw [e]; exact List.mem_cons_self ..)
  have hr : ∀ x ∈ r, x.ind ≤ bnd root (n + 1) := fun x hx => by
   have := b.ind x (by rw [e]; exact List.mem_cons_of_mem _ hx)
   omega
  obtain ⟨ci, cf, d⟩ := c
  have up : bnd root n ≤ bnd root (n + 1) := by omega
  have out' : m.out.length ≤ (n + 1) * 14000 := by omega
  have hpl := placeOf_le h1 h2
  unfold step1
  rw [e]
  cases d with
  | text t =>
   have ht : textLen (.text t) = t.length := ints_length t
   have h4 := text_le (d := root) (List.mem_of_getElem? hf)
   have h4' : t.length ≤ 4000 := by
    have := g.bytes
    have h5 : textLen (.text t) ≤ root.bytes := h4
    omega
   have hb' : bnd root (n + 1) = bnd root n + (t.length + 9) := by rw [hb, ht]
   show Bnd root (n + 1) (write { m with cmds := r } t)
   unfold write
   cases hh : m.held with
   | nothing =>
    rw [hh] at hpl h2
    refine ⟨?_, hr, Nat.zero_le _, ?_⟩
    ·show placeOf m.col .nothing + t.length ≤ _
     omega
    ·show (t.reverse ++ m.out).length ≤ _
     rw [List.length_append, List.length_reverse]
     omega
   | blank =>
    rw [hh] at hpl h2
    refine ⟨?_, hr, Nat.zero_le _, ?_⟩
    ·show placeOf m.col .blank + t.length ≤ _
     omega
    ·show (t.reverse ++ 32 :: m.out).length ≤ _
     rw [List.length_append, List.length_reverse, List.length_cons]
     omega
   | newline i =>
    rw [hh] at hpl h2
    have h2' : i ≤ bnd root n := h2
    refine ⟨?_, hr, Nat.zero_le _, ?_⟩
    ·show placeOf m.col (.newline i) + t.length ≤ _
     omega
    ·show (t.reverse ++ (List.replicate i 32 ++ 10 :: m.out)).length ≤ _
     rw [List.length_append, List.length_reverse, List.length_append, List.length_replicate, List.length_cons]
     omega
   | empty i =>
    rw [hh] at hpl h2
    have h2' : i ≤ bnd root n := h2
    refine ⟨?_, hr, Nat.zero_le _, ?_⟩
    ·show placeOf m.col (.empty i) + t.length ≤ _
     omega
    ·show (t.reverse ++ (List.replicate i 32 ++ 10 :: 10 :: m.out)).length ≤ _
     rw [List.length_append, List.length_reverse, List.length_append, List.length_replicate, List.length_cons, List.length_cons]
     omega
  | mark k =>
   have hi' : ci ≤ bnd root n := hi
   cases k with
   | blank => exact ⟨Nat.le_trans h1 up, hr, Nat.le_trans (blank_le h2) up, out'⟩
   | soft =>
    cases cf with
    | true => exact ⟨Nat.le_trans h1 up, hr, Nat.le_trans h2 up, out'⟩
    | false => exact ⟨Nat.le_trans h1 up, hr, Nat.le_trans (break_le hi' h2) up, out'⟩
   | line =>
    cases cf with
    | true => exact ⟨Nat.le_trans h1 up, hr, Nat.le_trans (blank_le h2) up, out'⟩
    | false => exact ⟨Nat.le_trans h1 up, hr, Nat.le_trans (break_le hi' h2) up, out'⟩
   | hard => exact ⟨Nat.le_trans h1 up, hr, Nat.le_trans (break_le hi' h2) up, out'⟩
   | gap => exact ⟨Nat.le_trans h1 up, hr, Nat.le_trans (gap_le hi' h2) up, out'⟩
  | row l => exact ⟨Nat.le_trans h1 up, put_ind (Nat.le_trans hi up) hr, Nat.le_trans h2 up, out'⟩
  | indent k d =>
   have hk := (g.parts _ (List.mem_of_getElem? hf)).ind rfl
   have hk' : (k : Int) ≤ 8 := hk
   have hi' : ci ≤ bnd root n := hi
   refine ⟨Nat.le_trans h1 up, fun x hx => ?_, Nat.le_trans h2 up, out'⟩
   rcases List.mem_cons.mp hx with rfl | hx
   ·show ci + k ≤ _
    omega
   ·exact hr x hx
  | align d =>
   refine ⟨Nat.le_trans h1 up, fun x hx => ?_, Nat.le_trans h2 up, out'⟩
   rcases List.mem_cons.mp hx with rfl | hx
   ·show placeOf m.col m.held ≤ _
    omega
   ·exact hr x hx
  | group d =>
   have hi' : ci ≤ bnd root n := hi
   refine ⟨Nat.le_trans h1 up, fun x hx => ?_, Nat.le_trans h2 up, out'⟩
   rcases List.mem_cons.mp hx with rfl | hx
   ·show ci ≤ _
    omega
   ·exact hr x hx
end WL
set_option linter.all false
set_option maxRecDepth 100000
namespace WL
open Vafmtb
def kindOf (d : Doc) : Int := (raw d).kind
def reachT : Nat → Held → List (Doc × Bool) → Nat
 | _, _, [] => 0
 | col, h, (d, f) :: r => match d with
  | .text t => max (placeOf col h + t.length) (reachT (placeOf col h + t.length) .nothing r)
  | .mark .blank => reachT col (blankComes col h) r
  | .mark .soft => if f then reachT col h r else 0
  | .mark .line => if f then reachT col (blankComes col h) r else 0
  | .mark .hard => 0
  | .mark .gap => 0
  | .row _ => reachT col h r
  | .indent _ _ => reachT col h r
  | .align _ => reachT col h r
  | .group _ => reachT col h r
theorem reach_reachT : ∀ (n col : Nat) (h : Held) (l : List Cmd), (flagged l).length < n → reach n col h l = reachT col h (flagged l)
 | 0, col, h, l, hn => absurd hn (Nat.not_lt_zero _)
 | n + 1, col, h, [], hn => rfl
 | n + 1, col, h, c :: r, hn => by
  obtain ⟨i, f, d⟩ := c
  rw [flagged_cons] at hn ⊢
  rw [List.length_cons] at hn
  have hn' : (((subsAll (kids d)).map fun d => (d, f)) ++ flagged r).length < n := Nat.lt_of_succ_lt_succ hn
  cases d with
  | text t =>
   show max (placeOf col h + t.length) (reach n (placeOf col h + t.length) .nothing r) = max (placeOf col h + t.length) (reachT (placeOf col h + t.length) .nothing (flagged r))
   rw [reach_reachT n (placeOf col h + t.length) .nothing r hn']
  | mark m =>
   cases m with
   | blank => exact reach_reachT n col (blankComes col h) r hn'
   | soft =>
    show (if f = true then reach n col h r else 0) = if f = true then reachT col h (flagged r) else 0
    cases f with
    | true => exact reach_reachT n col h r hn'
    | false => rfl
   | line =>
    show (if f = true then reach n col (blankComes col h) r else 0) = if f = true then reachT col (blankComes col h) (flagged r) else 0
    cases f with
    | true => exact reach_reachT n col (blankComes col h) r hn'
    | false => rfl
   | hard => rfl
   | gap => rfl
  | row l =>
   have e := flagged_put i f l r
   show reach n col h (put i f l r) = reachT col h (((subsAll l).map fun d => (d, f)) ++ flagged r)
   rw [← e]
   exact reach_reachT n col h _ (by rw [e]; exact hn')
  | indent k d =>
   have e := flagged_one (i + k) f d r
   show reach n col h ({ ind := i + k, flat := f, doc := d } :: r) = reachT col h (((subsAll [d]).map fun d => (d, f)) ++ flagged r)
   rw [← e]
   exact reach_reachT n col h _ (by rw [e]; exact hn')
  | align d =>
   have e := flagged_one (placeOf col h) f d r
   show reach n col h ({ ind := placeOf col h, flat := f, doc := d } :: r) = reachT col h (((subsAll [d]).map fun d => (d, f)) ++ flagged r)
   rw [← e]
   exact reach_reachT n col h _ (by rw [e]; exact hn')
  | group d =>
   have e := flagged_one i f d r
   show reach n col h ({ ind := i, flat := f, doc := d } :: r) = reachT col h (((subsAll [d]).map fun d => (d, f)) ++ flagged r)
   rw [← e]
   exact reach_reachT n col h _ (by rw [e]; exact hn')
theorem ahead_reachT (m : Mach) (i : Nat) (d : Doc) (r : List Cmd) : ahead m i d r = reachT m.col m.held (((subs d).map fun e => (e, true)) ++ flagged r) := by
 unfold ahead
 exact reach_reachT _ m.col m.held _ (by rw [weight_eq]; exact Nat.lt_succ_self _)
def reachI (behind : Nat) : Nat → Nat → Held → Nat → List Doc → Nat
 | _, _, _, acc, [] => acc
 | spot, col, h, acc, e :: r =>
  if kindOf e = 0 then reachI behind (spot + 1) (placeOf col h + textLen e) .nothing (placeOf col h + textLen e) r
  else if behind ≤ spot ∧ (kindOf e = 2 ∨ kindOf e = 3 ∨ kindOf e = 4 ∨ kindOf e = 5) then acc
  else if kindOf e = 1 ∨ kindOf e = 3 then reachI behind (spot + 1) col (blankComes col h) acc r
  else reachI behind (spot + 1) col h acc r
theorem reachI_cons (behind spot col : Nat) (h : Held) (acc : Nat) (e : Doc) (r : List Doc) : reachI behind spot col h acc (e :: r) =
  if (raw e).kind = 0 then reachI behind (spot + 1) (placeOf col h + textLen e) .nothing (placeOf col h + textLen e) r
  else if behind ≤ spot ∧ ((raw e).kind = 2 ∨ (raw e).kind = 3 ∨ (raw e).kind = 4 ∨ (raw e).kind = 5) then acc
  else if (raw e).kind = 1 ∨ (raw e).kind = 3 then reachI behind (spot + 1) col (blankComes col h) acc r
  else reachI behind (spot + 1) col h acc r := rfl
theorem place_blank (col : Nat) (h : Held) : placeOf col h ≤ placeOf col (blankComes col h) := by
 unfold blankComes
 split
 ·rename_i q
  rw [q.1]
  exact Nat.le_succ _
 ·exact Nat.le_refl _
theorem reachI_not : ∀ (l : List Doc) (behind spot col : Nat) (h : Held) (acc : Nat), behind ≤ spot → acc ≤ placeOf col h → reachI behind spot col h acc l = max acc (reachT col h (l.map fun d => (d, false)))
 | [], _, _, _, _, acc, _, _ => (Nat.max_eq_left (Nat.zero_le _)).symm
 | e :: l, behind, spot, col, h, acc, hb, ha => by
  have ih := fun c h a => reachI_not l behind (spot + 1) c h a (by omega)
  have hbl := place_blank col h
  rw [List.map_cons]
  unfold reachI reachT
  cases e with
  | text t =>
   have e1 : textLen (.text t) = t.length := ints_length t
   simp only [kindOf, raw, if_true]
   rw [e1, ih _ _ _ (by show _ ≤ placeOf _ .nothing; exact Nat.le_refl _)]
   omega
  | mark m =>
   cases m with
   | blank => simp [kindOf, raw, Mark.number, ih _ _ _ (Nat.le_trans ha hbl)]
   | soft => simp [kindOf, raw, Mark.number, hb]
   | line => simp [kindOf, raw, Mark.number, hb]
   | hard => simp [kindOf, raw, Mark.number, hb]
   | gap => simp [kindOf, raw, Mark.number, hb]
  | row l => simp [kindOf, raw, ih _ _ _ ha]
  | indent n d => simp [kindOf, raw, ih _ _ _ ha]
  | align d => simp [kindOf, raw, ih _ _ _ ha]
  | group d => simp [kindOf, raw, ih _ _ _ ha]
def Soft (l : List Doc) : Prop := ∀ e ∈ l, kindOf e ≠ 4 ∧ kindOf e ≠ 5
theorem reachI_flat (r : List Doc) : ∀ (l : List Doc) (behind spot col : Nat) (h : Held) (acc : Nat), Soft l → behind = spot + l.length → acc ≤ placeOf col h → reachI behind spot col h acc (l ++ r) = max acc (reachT col h ((l.map fun d => (d, true)) ++ r.map fun d => (d, false)))
 | [], behind, spot, col, h, acc, _, hb, ha => by
  rw [List.nil_append, reachI_not r behind spot col h acc (by simp at hb; omega) ha]
  rfl
 | e :: l, behind, spot, col, h, acc, hs, hb, ha => by
  rw [List.length_cons] at hb
  have ih := fun c h a => reachI_flat r l behind (spot + 1) c h a (fun x hx => hs x (List.mem_cons_of_mem _ hx)) (by omega)
  obtain ⟨h4, h5⟩ := hs e (List.mem_cons_self ..)
  have nb : ¬ behind ≤ spot := by omega
  have hbl := place_blank col h
  rw [List.map_cons, List.cons_append, List.cons_append]
  unfold reachI reachT
  cases e with
  | text t =>
   have e1 : textLen (.text t) = t.length := ints_length t
   simp only [kindOf, raw, if_true]
   rw [e1, ih _ _ _ (by show _ ≤ placeOf _ .nothing; exact Nat.le_refl _)]
   omega
  | mark m =>
   cases m with
   | blank => simp [kindOf, raw, Mark.number, ih _ _ _ (Nat.le_trans ha hbl)]
   | soft => simp [kindOf, raw, Mark.number, nb, ih _ _ _ ha]
   | line => simp [kindOf, raw, Mark.number, nb, ih _ _ _ (Nat.le_trans ha hbl)]
   | hard => exact absurd rfl h4
   | gap => exact absurd rfl h5
  | row l => simp [kindOf, raw, ih _ _ _ ha]
  | indent n d => simp [kindOf, raw, ih _ _ _ ha]
  | align d => simp [kindOf, raw, ih _ _ _ ha]
  | group d => simp [kindOf, raw, ih _ _ _ ha]
mutual
theorem soft_of : ∀ d : Doc, d.forced = false → Soft (subs d)
 | .text t, _ => fun e he => by
  have h1 : e = .text t := List.mem_singleton.mp he
  rw [h1]
  exact ⟨by show ¬ (0 : Int) = 4; decide, by show ¬ (0 : Int) = 5; decide⟩
 | .mark m, h => fun e he => by
  have h1 : e = .mark m := List.mem_singleton.mp he
  rw [h1]
  cases m with
  | hard => cases h
  | gap => cases h
  | blank => exact ⟨by show ¬ (1 : Int) = 4; decide, by show ¬ (1 : Int) = 5; decide⟩
  | soft => exact ⟨by show ¬ (2 : Int) = 4; decide, by show ¬ (2 : Int) = 5; decide⟩
  | line => exact ⟨by show ¬ (3 : Int) = 4; decide, by show ¬ (3 : Int) = 5; decide⟩
 | .row l, h => fun e he => by
  rcases List.mem_cons.mp he with rfl | he
  ·exact ⟨by show ¬ (6 : Int) = 4; decide, by show ¬ (6 : Int) = 5; decide⟩
  ·exact softAll_of l h e he
 | .indent n d, h => fun e he => by
  rcases List.mem_cons.mp he with rfl | he
  ·exact ⟨by show ¬ (7 : Int) = 4; decide, by show ¬ (7 : Int) = 5; decide⟩
  ·exact soft_of d h e he
 | .align d, h => fun e he => by
  rcases List.mem_cons.mp he with rfl | he
  ·exact ⟨by show ¬ (8 : Int) = 4; decide, by show ¬ (8 : Int) = 5; decide⟩
  ·exact soft_of d h e he
 | .group d, h => fun e he => by
  rcases List.mem_cons.mp he with rfl | he
  ·exact ⟨by show ¬ (9 : Int) = 4; decide, by show ¬ (9 : Int) = 5; decide⟩
  ·exact soft_of d h e he
theorem softAll_of : ∀ l : List Doc, forcedAny l = false → Soft (subsAll l)
 | [], _ => fun e he => by cases he
 | d :: l, h => fun e he => by
  have h' : (d.forced || forcedAny l) = false := h
  rw [Bool.or_eq_false_iff] at h'
  rcases List.mem_append.mp he with he | he
  ·exact soft_of d h'.1 e he
  ·exact softAll_of l h'.2 e he
end
theorem behind_group {root d : Doc} {n : Nat} {m : Mach} {c : Cmd} {r : List Cmd} (g : Goes root n m) (e : m.cmds = c :: r) (hd : c.doc = .group d) : (subs root).drop (n + 1) = subs d ++ cmdParts r := by
 have g1 := g.parts
 rw [e, cmdParts_cons] at g1
 rw [← List.drop_drop, ← g1, hd]
 show subsAll [d] ++ cmdParts r = _
 rw [subsAll_one]
theorem ahead_walk {root d : Doc} {n : Nat} {m : Mach} {c : Cmd} {r : List Cmd} (g : Goes root n m) (e : m.cmds = c :: r) (hd : c.doc = .group d) (hc : c.flat = false) (hf : d.forced = false) :
  ahead m c.ind d r = reachI (n + c.doc.size) (n + 1) m.col m.held 0 ((subs root).drop (n + 1)) := by
 have g2 := behind_group g e hd
 have g3 := g.ff
 rw [e] at g3
 have g4 : ∀ x ∈ r, x.flat = false := by
  rcases g3.1 with q | q
  ·rw [hc] at q
   cases q
  ·exact q
 rw [ahead_reachT, flagged_not g4, g2]
 refine ((reachI_flat (cmdParts r) (subs d) _ _ _ _ 0 (soft_of d hf) ?_ (Nat.zero_le _)).trans (Nat.max_eq_right (Nat.zero_le _))).symm
 rw [hd, subs_length]
 show n + (1 + d.size) = n + 1 + d.size
 omega
theorem reachT_le : ∀ (l : List (Doc × Bool)) (col b : Nat) (h : Held), col ≤ b → heldAtOf h ≤ b → reachT col h l ≤ b + costs (l.map Prod.fst)
 | [], col, b, h, _, _ => Nat.zero_le _
 | (e, f) :: l, col, b, h, hc, hh => by
  have ec : costs (((e, f) :: l).map Prod.fst) = textLen e + 9 + costs (l.map Prod.fst) := by
   unfold costs
   rw [List.map_cons, List.map_cons, List.sum_cons]
  rw [ec]
  have ih := fun h (q : heldAtOf h ≤ b) => reachT_le l col b h hc q
  have i1 := ih h hh
  have i2 := ih (blankComes col h) (blank_le hh)
  unfold reachT
  cases e with
  | text t =>
   have e1 : textLen (.text t) = t.length := ints_length t
   have hp := placeOf_le hc hh
   have i3 := reachT_le l (placeOf col h + t.length) (b + 1 + t.length) .nothing (by omega) (Nat.zero_le _)
   simp only
   rw [e1]
   omega
  | mark m =>
   cases m with
   | blank => simp only; omega
   | soft => simp only; split <;> omega
   | line => simp only; split <;> omega
   | hard => exact Nat.zero_le _
   | gap => exact Nat.zero_le _
  | row l => simp only; omega
  | indent n d => simp only; omega
  | align d => simp only; omega
  | group d => simp only; omega
theorem flagged_fst : ∀ l : List Cmd, (flagged l).map Prod.fst = cmdParts l
 | [] => rfl
 | c :: r => by
  show (((subs c.doc).map fun d => (d, c.flat)) ++ flagged r).map Prod.fst = subs c.doc ++ cmdParts r
  rw [List.map_append, flagged_fst r, List.map_map]
  congr 1
  exact List.map_id _
theorem ahead_le {root d : Doc} {n : Nat} {m : Mach} {c : Cmd} {r : List Cmd} (G : Good root) (g : Goes root n m) (b : Bnd root n m) (e : m.cmds = c :: r) (hd : c.doc = .group d) : ahead m c.ind d r ≤ 9400 := by
 have g2 := behind_group g e hd
 obtain ⟨hf, _⟩ := g.first e
 have h1 := reachT_le (((subs d).map fun e => (e, true)) ++ flagged r) m.col (bnd root n) m.held b.col b.held
 rw [List.map_append, flagged_fst, List.map_map] at h1
 have e1 : (subs d).map (Prod.fst ∘ fun e => (e, true)) = subs d := List.map_id _
 rw [e1, ← g2] at h1
 have h2 : costs (subs root) = costs ((subs root).take (n + 1)) + costs ((subs root).drop (n + 1)) := by
  rw [← costs_append, List.take_append_drop]
 have h3 := bnd_succ hf
 have h4 := bnd_le G root.size
 have h5 : bnd root root.size = costs (subs root) := by
  unfold bnd
  rw [List.take_of_length_le (by rw [subs_length]; exact Nat.le_refl _)]
 unfold bnd at h3 h1
 rw [ahead_reachT]
 unfold bnd at h4 h5
 omega
end WL
set_option linter.all false
set_option maxRecDepth 100000
namespace WL
open Vafmtb
def RowZ (m : Mach) : Prop := m.col = 0 → m.rows = [] ∧ m.held = .nothing ∧ m.ind = 0
theorem rowz_begun (f : Bool) (d : Doc) : RowZ { cmds := [{ ind := 0, flat := f, doc := d }] } := fun _ => ⟨rfl, rfl, rfl⟩
def breaksOf : Held → Nat
 | .nothing => 0
 | .blank => 0
 | .newline _ => 1
 | .empty _ => 2
def textRows (rs : List Row) (wt br col size : Nat) : List Row :=
 if 0 < br ∨ rs = [] then (rs ++ (if br = 2 then [⟨0, 0, 0⟩] else [])) ++ [⟨col + size, col, 0⟩]
 else rs.dropLast ++ (match rs.getLast? with
  | none => []
  | some r => [⟨col + size, r.ind, r.flats + wt⟩])
theorem rows_write {m : Mach} {t : Bytes} (z : RowZ m) (hl : 1 ≤ t.length) : rowsOf (write m t) = textRows (rowsOf m) m.met (breaksOf m.held) (placeOf m.col m.held) t.length ∧ (write m t).met = 0 ∧ RowZ (write m t) := by
 cases hh : m.held with
 | nothing =>
  by_cases hc : m.col = 0
  ·obtain ⟨h1, _, h3⟩ := z hc
   have e1 : rowsOf m = [] := by
    unfold rowsOf
    rw [if_pos hc, h1]
    rfl
   refine ⟨?_, ?_, ?_⟩
   ·rw [e1]
    unfold rowsOf write
    simp only [hh]
    rw [if_neg (by intro q; omega), hc, h1, h3]
    simp [textRows, breaksOf, placeOf]
   ·unfold write
    simp only [hh]
   ·intro q
    unfold write at q
    simp only [hh] at q
    omega
  ·have e1 : rowsOf m = m.rows.reverse ++ [⟨m.col, m.ind, m.flats⟩] := by
    unfold rowsOf
    rw [if_neg hc, List.reverse_cons]
   refine ⟨?_, ?_, ?_⟩
   ·rw [e1]
    unfold rowsOf write
    simp only [hh]
    rw [if_neg (by intro q; omega), if_neg hc]
    unfold textRows
    rw [if_neg (by simp [breaksOf])]
    rw [List.dropLast_concat, List.getLast?_concat, List.reverse_cons]
   ·unfold write
    simp only [hh]
   ·intro q
    unfold write at q
    simp only [hh] at q
    omega
 | blank =>
  have hc : ¬ m.col = 0 := fun q => by
   have := (z q).2.1
   rw [hh] at this
   cases this
  have e1 : rowsOf m = m.rows.reverse ++ [⟨m.col, m.ind, m.flats⟩] := by
   unfold rowsOf
   rw [if_neg hc, List.reverse_cons]
  refine ⟨?_, ?_, ?_⟩
  ·rw [e1]
   unfold rowsOf write
   simp only [hh]
   rw [if_neg (by intro q; omega)]
   unfold textRows
   rw [if_neg (by simp [breaksOf])]
   rw [List.dropLast_concat, List.getLast?_concat, List.reverse_cons]
  ·unfold write
   simp only [hh]
  ·intro q
   unfold write at q
   simp only [hh] at q
   omega
 | newline i =>
  have hc : ¬ m.col = 0 := fun q => by
   have := (z q).2.1
   rw [hh] at this
   cases this
  have e1 : rowsOf m = m.rows.reverse ++ [⟨m.col, m.ind, m.flats⟩] := by
   unfold rowsOf
   rw [if_neg hc, List.reverse_cons]
  refine ⟨?_, ?_, ?_⟩
  ·rw [e1]
   unfold rowsOf write
   simp only [hh]
   rw [if_neg (by intro q; omega)]
   unfold textRows
   rw [if_pos (by simp [breaksOf]), if_neg (by simp [breaksOf])]
   simp [placeOf]
  ·unfold write
   simp only [hh]
  ·intro q
   unfold write at q
   simp only [hh] at q
   omega
 | empty i =>
  have hc : ¬ m.col = 0 := fun q => by
   have := (z q).2.1
   rw [hh] at this
   cases this
  have e1 : rowsOf m = m.rows.reverse ++ [⟨m.col, m.ind, m.flats⟩] := by
   unfold rowsOf
   rw [if_neg hc, List.reverse_cons]
  refine ⟨?_, ?_, ?_⟩
  ·rw [e1]
   unfold rowsOf write
   simp only [hh]
   rw [if_neg (by intro q; omega)]
   unfold textRows
   rw [if_pos (by simp [breaksOf]), if_pos (by simp [breaksOf])]
   simp [placeOf]
  ·unfold write
   simp only [hh]
  ·intro q
   unfold write at q
   simp only [hh] at q
   omega
theorem rowz_held {m : Mach} {h : Held} {r : List Cmd} {k : Nat} (I : RowZ m) (hz : m.col = 0 → h = .nothing) : RowZ { m with cmds := r, held := h, met := k } :=
 fun z => ⟨(I z).1, hz z, (I z).2.2⟩
theorem rowz_step {root : Doc} {n : Nat} {m : Mach} (g : Good root) (gs : Goes root n m) (I : RowZ m) (w : Nat) : RowZ (step1 w m) := by
 cases e : m.cmds with
 | nil =>
  rw [step_nil w m e]
  exact I
 | cons c r =>
  obtain ⟨hf, hn⟩ := gs.first e
  obtain ⟨ci, cf, d⟩ := c
  have hb : m.col = 0 → blankComes m.col m.held = .nothing := fun z => by
   rw [z, (I z).2.1]
   rfl
  have hbr : m.col = 0 → breakComes m.col ci m.held = .nothing := fun z => by
   unfold breakComes
   rw [if_pos z]
   exact (I z).2.1
  have hga : m.col = 0 → gapComes m.col ci m.held = .nothing := fun z => by
   unfold gapComes
   rw [if_pos z]
   exact (I z).2.1
  have hh : m.col = 0 → m.held = .nothing := fun z => (I z).2.1
  unfold step1
  rw [e]
  cases d with
  | text t =>
   have hg := (g.parts _ (List.mem_of_getElem? hf)).txt rfl
   refine (rows_write (m := { m with cmds := r }) I ?_).2.2
   have h2 := hg.2
   rw [← ints_length]
   exact h2
  | mark k =>
   cases k with
   | blank => exact rowz_held (k := m.met) I hb
   | soft =>
    cases cf with
    | true => exact rowz_held I hh
    | false => exact rowz_held (k := m.met) I hbr
   | line =>
    cases cf with
    | true => exact rowz_held I hb
    | false => exact rowz_held (k := m.met) I hbr
   | hard => exact rowz_held (k := m.met) I hbr
   | gap => exact rowz_held (k := m.met) I hga
  | row l => exact I
  | indent k d => exact I
  | align d => exact I
  | group d => exact I
def grStep (m : Mach) (g : Nat) : Nat := match m.cmds with
 | [] => g
 | c :: r => match c.doc with
  | .group d => if c.flat = true ∨ d.forced = true then g else max g (ahead m c.ind d r)
  | _ => g
def grOf (w : Nat) : Nat → Mach → Nat → Nat
 | 0, _, g => g
 | k + 1, m, g => grOf w k (step1 w m) (grStep m g)
theorem grOf_succ (w : Nat) : ∀ (k : Nat) (m : Mach) (g : Nat), grOf w (k + 1) m g = grStep (stepsOf w k m) (grOf w k m g)
 | 0, m, g => rfl
 | k + 1, m, g => by
  show grOf w (k + 1) (step1 w m) (grStep m g) = _
  rw [grOf_succ w k (step1 w m) (grStep m g)]
  rfl
theorem need_gr {root : Doc} (G : Good root) {w : Nat} (hw : 9400 ≤ w) : ∀ (k n : Nat) (m : Mach) (ms : List Bool) (g : Nat), Goes root n m → Bnd root n m → n + k ≤ root.size → need k { m with modes := ms } g = grOf w k m g
 | 0, n, m, ms, g, _, _, _ => rfl
 | k + 1, n, m, ms, g, gs, b, h => by
  have hne : m.cmds ≠ [] := fun e => by
   have := gs.nil_iff.mp e
   omega
  have gs' := gs.step w hne
  have b' := b.step G gs w hne
  have ih := fun ms g => need_gr G hw k (n + 1) (step1 w m) ms g gs' b' (by omega)
  show need (k + 1) { m with modes := ms } g = grOf w k (step1 w m) (grStep m g)
  obtain ⟨cs, e⟩ : ∃ cs, m.cmds = cs := ⟨_, rfl⟩
  cases cs with
  | nil => exact absurd e hne
  | cons c r =>
   have hle := fun d (hd : c.doc = .group d) => ahead_le G gs b e hd
   obtain ⟨ci, cf, d⟩ := c
   have plain : (∀ d', d ≠ .group d') → need (k + 1) { m with modes := ms } g = grOf w k (step1 w m) (grStep m g) := fun hng => by
    have e1 : need (k + 1) { m with modes := ms } g = need k (step1 0 { m with modes := ms }) g := by
     conv => lhs; unfold need
     simp only [e]
     split
     ·rename_i heq
      have := (List.cons.inj heq).1
      injection this with q1 q2 q3
      exact absurd q3 (hng _)
     ·rfl
    have e2 : grStep m g = g := by
     unfold grStep
     rw [e]
     cases d with
     | group d' => exact absurd rfl (hng d')
     | _ => rfl
    have e3 : ∃ ms', step1 0 { m with modes := ms } = { step1 w m with modes := ms' } := by
     unfold step1
     simp only [e]
     cases d with
     | text t =>
      refine ⟨ms, ?_⟩
      unfold write
      simp only
      cases m.held <;> rfl
     | mark q => cases q <;> first | exact ⟨ms, rfl⟩ | (cases cf <;> exact ⟨ms, rfl⟩)
     | group d' => exact absurd rfl (hng d')
     | _ => exact ⟨ms, rfl⟩
    obtain ⟨ms', e3⟩ := e3
    rw [e1, e3, e2]
    exact ih ms' g
   cases d with
   | group d =>
    have hle := hle d rfl
    have hah : ahead { m with modes := ms } ci d r = ahead m ci d r := rfl
    cases cf with
    | true =>
     have e1 : need (k + 1) { m with modes := ms } g = need k (step1 0 { m with modes := ms }) g := by
      conv => lhs; unfold need
      simp only [e]
     have e2 : grStep m g = g := by
      unfold grStep
      rw [e]
      simp
     have e3 : ∃ ms', step1 0 { m with modes := ms } = { step1 w m with modes := ms' } := by
      unfold step1
      simp only [e]
      exact ⟨_, rfl⟩
     obtain ⟨ms', e3⟩ := e3
     rw [e1, e3, e2]
     exact ih ms' g
    | false =>
     cases hf : d.forced with
     | true =>
      have e1 : need (k + 1) { m with modes := ms } g = need k (step1 0 { m with modes := ms }) g := by
       conv => lhs; unfold need
       simp only [e, hf, if_true]
      have e2 : grStep m g = g := by
       unfold grStep
       rw [e]
       simp [hf]
      have e3 : ∃ ms', step1 0 { m with modes := ms } = { step1 w m with modes := ms' } := by
       unfold step1
       simp only [e, hf]
       exact ⟨_, rfl⟩
      obtain ⟨ms', e3⟩ := e3
      rw [e1, e3, e2]
      exact ih ms' g
     | false =>
      have e1 : need (k + 1) { m with modes := ms } g = need k { m with cmds := { ind := ci, flat := true, doc := d } :: r, modes := ms } (max g (ahead m ci d r)) := by
       conv => lhs; unfold need
       simp only [e, hf]
       rfl
      have e2 : grStep m g = max g (ahead m ci d r) := by
       unfold grStep
       rw [e]
       simp [hf]
      have ef : fits w m ci d r = true := decide_eq_true (Nat.le_trans hle hw)
      have e3 : { m with cmds := { ind := ci, flat := true, doc := d } :: r, modes := ms } = { step1 w m with modes := ms } := by
       unfold step1
       simp only [e, hf, ef]
       rfl
      rw [e1, e3, e2]
      exact ih ms _
   | text t => exact plain fun d' q => by cases q
   | mark q => exact plain fun d' q => by cases q
   | row l => exact plain fun d' q => by cases q
   | indent i d => exact plain fun d' q => by cases q
   | align d => exact plain fun d' q => by cases q
theorem least_gr {root : Doc} (G : Good root) {w : Nat} (hw : 9400 ≤ w) : leastWidth root = grOf w root.size { cmds := [{ ind := 0, flat := false, doc := root }] } 0 :=
 need_gr G hw root.size 0 { cmds := [{ ind := 0, flat := false, doc := root }] } [] 0 (goes_begun root false) (bnd_begun root false) (by omega)
theorem fold_max : ∀ (l : List Row) (a : Nat), (l.foldl (fun (a : Nat) r => max a r.length) a : Nat) = (l.map fun r => (r.length : Int)).foldl (fun m y => if y > m then y else m) (a : Int)
 | [], a => rfl
 | r :: l, a => by
  rw [List.foldl_cons, List.map_cons, List.foldl_cons]
  have e : (if (r.length : Int) > (a : Int) then (r.length : Int) else (a : Int)) = ((max a r.length : Nat) : Int) := by
   by_cases h : (r.length : Int) > (a : Int)
   ·rw [if_pos h, Nat.max_eq_right (by omega)]
   ·rw [if_neg h, Nat.max_eq_left (by omega)]
  rw [e]
  exact fold_max l (max a r.length)
end WL
set_option linter.all false
namespace WL
open PyFlat (put put1 putRow putRows okCall)
open PyVafmtb (shape)
def given : List Int := [0, 0, 1, 1, 1, 2, 2, 2, 1, 2, 1, 0, 0, 1]
inductive CallIs : List (List Int) → Prop where
 | put (x : List Int) : CallIs [[0], x]
 | drop : CallIs [[1]]
 | told (k : Int) : CallIs [[2, k]]
 | size (k : Int) : CallIs [[3, k]]
 | flat (k : Int) : CallIs [[4, k]]
 | lay (w k : Int) : CallIs [[5, w, k]]
 | groups (w k : Int) : CallIs [[6, w, k]]
 | lines (w k : Int) : CallIs [[7, w, k]]
 | least (k : Int) : CallIs [[8, k]]
 | begin (w k : Int) : CallIs [[9, w, k]]
 | steps (n : Int) : CallIs [[10, n]]
 | look : CallIs [[11]]
 | written : CallIs [[12]]
 | back (n : Int) : CallIs [[13, n]]
theorem len0 {α : Type} {l : List α} (h : l.length = 0) : l = [] := List.eq_nil_of_length_eq_zero h
theorem len1 {α : Type} {l : List α} (h : l.length = 1) : ∃ a, l = [a] := by
 match l, h with
 | [a], _ => exact ⟨a, rfl⟩
theorem len2 {α : Type} {l : List α} (h : l.length = 2) : ∃ a b, l = [a, b] := by
 match l, h with
 | [a, b], _ => exact ⟨a, b, rfl⟩
theorem shape_some {p : Int} {n k : Nat} (h : shape p = some (n, k)) : (p = 0 ∧ n = 0 ∧ k = 1) ∨ ((p = 1 ∨ p = 11 ∨ p = 12) ∧ n = 0 ∧ k = 0) ∨ ((p = 2 ∨ p = 3 ∨ p = 4 ∨ p = 8 ∨ p = 10 ∨ p = 13) ∧ n = 1 ∧ k = 0) ∨ ((p = 5 ∨ p = 6 ∨ p = 7 ∨ p = 9) ∧ n = 2 ∧ k = 0) := by
 by_cases h0 : p = 0
 ·subst h0
  obtain ⟨e1, e2⟩ := Prod.mk.inj (Option.some.inj (show some ((0 : Nat), (1 : Nat)) = some (n, k) from h))
  omega
 by_cases h1 : p = 1
 ·subst h1
  obtain ⟨e1, e2⟩ := Prod.mk.inj (Option.some.inj (show some ((0 : Nat), (0 : Nat)) = some (n, k) from h))
  omega
 by_cases h2 : p = 2
 ·subst h2
  obtain ⟨e1, e2⟩ := Prod.mk.inj (Option.some.inj (show some ((1 : Nat), (0 : Nat)) = some (n, k) from h))
  omega
 by_cases h3 : p = 3
 ·subst h3
  obtain ⟨e1, e2⟩ := Prod.mk.inj (Option.some.inj (show some ((1 : Nat), (0 : Nat)) = some (n, k) from h))
  omega
 by_cases h4 : p = 4
 ·subst h4
  obtain ⟨e1, e2⟩ := Prod.mk.inj (Option.some.inj (show some ((1 : Nat), (0 : Nat)) = some (n, k) from h))
  omega
 by_cases h5 : p = 5
 ·subst h5
  obtain ⟨e1, e2⟩ := Prod.mk.inj (Option.some.inj (show some ((2 : Nat), (0 : Nat)) = some (n, k) from h))
  omega
 by_cases h6 : p = 6
 ·subst h6
  obtain ⟨e1, e2⟩ := Prod.mk.inj (Option.some.inj (show some ((2 : Nat), (0 : Nat)) = some (n, k) from h))
  omega
 by_cases h7 : p = 7
 ·subst h7
  obtain ⟨e1, e2⟩ := Prod.mk.inj (Option.some.inj (show some ((2 : Nat), (0 : Nat)) = some (n, k) from h))
  omega
 by_cases h8 : p = 8
 ·subst h8
  obtain ⟨e1, e2⟩ := Prod.mk.inj (Option.some.inj (show some ((1 : Nat), (0 : Nat)) = some (n, k) from h))
  omega
 by_cases h9 : p = 9
 ·subst h9
  obtain ⟨e1, e2⟩ := Prod.mk.inj (Option.some.inj (show some ((2 : Nat), (0 : Nat)) = some (n, k) from h))
  omega
 by_cases h10 : p = 10
 ·subst h10
  obtain ⟨e1, e2⟩ := Prod.mk.inj (Option.some.inj (show some ((1 : Nat), (0 : Nat)) = some (n, k) from h))
  omega
 by_cases h11 : p = 11
 ·subst h11
  obtain ⟨e1, e2⟩ := Prod.mk.inj (Option.some.inj (show some ((0 : Nat), (0 : Nat)) = some (n, k) from h))
  omega
 by_cases h12 : p = 12
 ·subst h12
  obtain ⟨e1, e2⟩ := Prod.mk.inj (Option.some.inj (show some ((0 : Nat), (0 : Nat)) = some (n, k) from h))
  omega
 by_cases h13 : p = 13
 ·subst h13
  obtain ⟨e1, e2⟩ := Prod.mk.inj (Option.some.inj (show some ((1 : Nat), (0 : Nat)) = some (n, k) from h))
  omega
 unfold shape at h
 rw [if_neg h0, if_neg h1, if_neg h2, if_neg h3, if_neg h4, if_neg h5, if_neg h6, if_neg h7, if_neg h8, if_neg h9, if_neg h10, if_neg h11, if_neg h12, if_neg h13] at h
 cases h
theorem callIs_of {c : List (List Int)} (h : okCall shape c) : CallIs c := by
 obtain ⟨p, a, xs, rfl, hs⟩ := h
 rcases shape_some hs with ⟨rfl, hn, hk⟩ | ⟨hp, hn, hk⟩ | ⟨hp, hn, hk⟩ | ⟨hp, hn, hk⟩
 ·obtain ⟨x, rfl⟩ := len1 hk
  rw [len0 hn]
  exact .put x
 ·rw [len0 hn, len0 hk]
  rcases hp with rfl | rfl | rfl
  ·exact .drop
  ·exact .look
  ·exact .written
 ·obtain ⟨x, rfl⟩ := len1 hn
  rw [len0 hk]
  rcases hp with rfl | rfl | rfl | rfl | rfl | rfl
  ·exact .told x
  ·exact .size x
  ·exact .flat x
  ·exact .least x
  ·exact .steps x
  ·exact .back x
 ·obtain ⟨x, y, rfl⟩ := len2 hn
  rw [len0 hk]
  rcases hp with rfl | rfl | rfl | rfl
  ·exact .lay x y
  ·exact .groups x y
  ·exact .lines x y
  ·exact .begin x y
theorem put1_len {c : List (List Int)} (h : CallIs c) : ∃ p r, put1 c = p :: r ∧ ((p = 0 ∧ ∃ x : List Int, r = (x.length : Int) :: x ∧ c = [[0], x]) ∨ (1 ≤ p ∧ p ≤ 13 ∧ given[p.toNat]? = some (r.length : Int))) := by
 cases h with
 | put x => exact ⟨0, (x.length : Int) :: x, by simp [put1, putRows, putRow], .inl ⟨rfl, x, rfl, rfl⟩⟩
 | drop => exact ⟨1, [], rfl, .inr ⟨by decide, by decide, rfl⟩⟩
 | told k => exact ⟨2, [k], rfl, .inr ⟨by decide, by decide, rfl⟩⟩
 | size k => exact ⟨3, [k], rfl, .inr ⟨by decide, by decide, rfl⟩⟩
 | flat k => exact ⟨4, [k], rfl, .inr ⟨by decide, by decide, rfl⟩⟩
 | lay w k => exact ⟨5, [w, k], rfl, .inr ⟨by decide, by decide, rfl⟩⟩
 | groups w k => exact ⟨6, [w, k], rfl, .inr ⟨by decide, by decide, rfl⟩⟩
 | lines w k => exact ⟨7, [w, k], rfl, .inr ⟨by decide, by decide, rfl⟩⟩
 | least k => exact ⟨8, [k], rfl, .inr ⟨by decide, by decide, rfl⟩⟩
 | begin w k => exact ⟨9, [w, k], rfl, .inr ⟨by decide, by decide, rfl⟩⟩
 | steps n => exact ⟨10, [n], rfl, .inr ⟨by decide, by decide, rfl⟩⟩
 | look => exact ⟨11, [], rfl, .inr ⟨by decide, by decide, rfl⟩⟩
 | written => exact ⟨12, [], rfl, .inr ⟨by decide, by decide, rfl⟩⟩
 | back n => exact ⟨13, [n], rfl, .inr ⟨by decide, by decide, rfl⟩⟩
theorem whole_id {c : List (List Int)} (h : CallIs c) : PyVafmtb.whole c = c := by
 cases h <;> rfl
theorem put_append : ∀ a b : List (List (List Int)), put (a ++ b) = put a ++ put b
 | [], b => rfl
 | c :: a, b => by
  show put1 c ++ put (a ++ b) = (put1 c ++ put a) ++ put b
  rw [put_append a b, List.append_assoc]
theorem put_drop {cs : List (List (List Int))} {i : Nat} {c : List (List Int)} (h : cs[i]? = some c) : (put cs).drop (put (cs.take i)).length = put1 c ++ put (cs.drop (i + 1)) ∧ put (cs.take (i + 1)) = put (cs.take i) ++ put1 c := by
 have hi : i < cs.length := (List.getElem?_eq_some_iff.mp h).1
 have e1 : cs = cs.take i ++ c :: cs.drop (i + 1) := by
  rw [List.getElem?_eq_getElem hi] at h
  rw [← Option.some.inj h, ← List.drop_eq_getElem_cons hi, List.take_append_drop]
 constructor
 ·conv => lhs; rw [e1]
  rw [put_append]
  have e2 : (cs.take i ++ c :: cs.drop (i + 1)).take i = cs.take i := by rw [← e1]
  rw [e2, List.drop_left]
  rfl
 ·rw [List.take_succ, h, Option.toList_some, put_append]
  show _ ++ (put1 c ++ []) = _
  rw [List.append_nil]
def stateOf (s : Vafmtb.State) : List (List (List Int)) → Vafmtb.State
 | [] => s
 | c :: r => stateOf (VafmtbNeutral.step s c).1 r
theorem stateOf_snoc : ∀ (l : List (List (List Int))) (s : Vafmtb.State) (c : List (List Int)), stateOf s (l ++ [c]) = (VafmtbNeutral.step (stateOf s l) c).1
 | [], s, c => rfl
 | d :: l, s, c => stateOf_snoc l _ c
theorem played_snoc : ∀ (l : List (List (List Int))) (s : Vafmtb.State) (c : List (List Int)), PyFlat.played VafmtbNeutral.step s (l ++ [c]) = PyFlat.played VafmtbNeutral.step s l ++ [(VafmtbNeutral.step (stateOf s l) c).2]
 | [], s, c => rfl
 | d :: l, s, c => by
  show (VafmtbNeutral.step s d).2 :: PyFlat.played VafmtbNeutral.step (VafmtbNeutral.step s d).1 (l ++ [c]) = _
  rw [played_snoc l _ c]
  rfl
theorem told_snoc (l : List (List Int)) (a : List Int) : PyFlat.told (l ++ [a]) = PyFlat.told l ++ ((a.length : Int) :: a) := by
 unfold PyFlat.told
 rw [List.flatMap_append, List.flatMap_cons, List.flatMap_nil, List.append_nil]
theorem asked_open {l : List Int} (h : PyVafmtb.answers_asked l = true) : ∃ cs : List (List (List Int)), l = put cs ∧ (∀ c ∈ cs, CallIs c) ∧ (∀ c ∈ cs, VafmtbNeutral.asked1 c = true) ∧ PyVafmtb.answers l = PyFlat.told (PyFlat.played VafmtbNeutral.step VafmtbNeutral.start cs) ∧ (PyVafmtb.answers l).length ≤ 10000000 ∧ cs.length ≤ 40 := by
 unfold PyVafmtb.answers_asked at h
 cases e : PyFlat.calls shape l.length l with
 | none =>
  rw [e] at h
  cases h
 | some cs =>
  rw [e] at h
  simp only [Bool.and_eq_true] at h
  obtain ⟨⟨⟨⟨h1, h2⟩, h3⟩, h4⟩, h5⟩ := h
  obtain ⟨e1, e2⟩ := PyFlat.put_calls _ _ _ e
  have hC : ∀ c ∈ cs, CallIs c := fun c hc => callIs_of (e2 c hc)
  have hw : cs.map PyVafmtb.whole = cs := by
   conv => rhs; rw [← List.map_id cs]
   exact List.map_congr_left fun c hc => whole_id (hC c hc)
  rw [hw] at h4
  unfold VafmtbNeutral.asked at h4
  rw [Bool.and_eq_true] at h4
  refine ⟨cs, e1, hC, fun c hc => List.all_eq_true.mp h4.1 c hc, ?_, of_decide_eq_true h5, of_decide_eq_true h2⟩
  unfold PyVafmtb.answers PyVafmtb.calls
  rw [e]
  simp only [hw]
end WL
set_option Elab.async false
set_option linter.all false
set_option maxRecDepth 100000
set_option maxHeartbeats 2000000
namespace WL
open PySem PySem.Spec PyProof.Rows L2
def top (i : Nat) : Stmt := PySem.Challenge.pw_widthlayout_s01_answers.main.body.getD i (.Pass ⟨0, 0, 0, 0⟩)
abbrev s_numbers_of : Stmt := top 18
abbrev s_count_inner : Stmt := top 19
abbrev s_count_parts : Stmt := top 21
abbrev s_spell_out : Stmt := top 22
abbrev s_make_document : Stmt := top 23
abbrev s_lay_out : Stmt := top 36
abbrev s_least_width : Stmt := top 37
abbrev s_is_text : Stmt := top 42
abbrev s_number_is_right : Stmt := top 43
abbrev s_read_numbered : Stmt := top 44
abbrev s_read_part : Stmt := top 45
abbrev s_read_parts : Stmt := top 46
abbrev s_call_length : Stmt := top 75
abbrev s_answers : Stmt := top 76
abbrev s_Part___init__ : Stmt := inClass (top 17) 0
abbrev s_Document___init__ : Stmt := inClass (top 20) 0
abbrev s_Document_measure : Stmt := inClass (top 20) 1
abbrev s_Document_inner_places : Stmt := inClass (top 20) 2
abbrev s_Document_count_bytes : Stmt := inClass (top 20) 3
abbrev s_Document_count_groups : Stmt := inClass (top 20) 4
abbrev s_Document_row_numbers : Stmt := inClass (top 20) 5
abbrev s_Line___init__ : Stmt := inClass (top 25) 0
abbrev s_Lines___init__ : Stmt := inClass (top 26) 0
abbrev s_Lines_take_flat_break : Stmt := inClass (top 26) 1
abbrev s_Lines_take_text : Stmt := inClass (top 26) 2
abbrev s_Lines_greatest_length : Stmt := inClass (top 26) 3
abbrev s_Lines_told_numbers : Stmt := inClass (top 26) 4
abbrev s_Pen___init__ : Stmt := inClass (top 32) 0
abbrev s_Pen_another : Stmt := inClass (top 32) 1
abbrev s_Pen_hold : Stmt := inClass (top 32) 2
abbrev s_Pen_take_blank : Stmt := inClass (top 32) 3
abbrev s_Pen_take_break : Stmt := inClass (top 32) 4
abbrev s_Pen_take_gap : Stmt := inClass (top 32) 5
abbrev s_Pen_take_text : Stmt := inClass (top 32) 6
abbrev s_Pen_text_column : Stmt := inClass (top 32) 7
abbrev s_Pen_held_breaks : Stmt := inClass (top 32) 8
abbrev s_Pen_held_bytes : Stmt := inClass (top 32) 9
abbrev s_Command___init__ : Stmt := inClass (top 34) 0
abbrev s_Laying___init__ : Stmt := inClass (top 35) 0
abbrev s_Laying_finish : Stmt := inClass (top 35) 1
abbrev s_Laying_advance : Stmt := inClass (top 35) 2
abbrev s_Laying_tell_first : Stmt := inClass (top 35) 3
abbrev s_Laying_step : Stmt := inClass (top 35) 4
abbrev s_Laying_write : Stmt := inClass (top 35) 5
abbrev s_Laying_step_mark : Stmt := inClass (top 35) 6
abbrev s_Laying_step_group : Stmt := inClass (top 35) 7
abbrev s_Laying_go_inside : Stmt := inClass (top 35) 8
abbrev s_Laying_fits : Stmt := inClass (top 35) 9
abbrev s_Laying_find_reach : Stmt := inClass (top 35) 10
abbrev s_Desk___init__ : Stmt := inClass (top 74) 0
abbrev s_Desk_answer : Stmt := inClass (top 74) 1
abbrev s_Desk_answer_put : Stmt := inClass (top 74) 2
abbrev s_Desk_answer_drop : Stmt := inClass (top 74) 3
abbrev s_Desk_holds : Stmt := inClass (top 74) 4
abbrev s_Desk_answer_told : Stmt := inClass (top 74) 5
abbrev s_Desk_answer_size : Stmt := inClass (top 74) 6
abbrev s_Desk_answer_flat : Stmt := inClass (top 74) 7
abbrev s_Desk_laying_refusal : Stmt := inClass (top 74) 8
abbrev s_Desk_answer_lay : Stmt := inClass (top 74) 9
abbrev s_Desk_answer_groups : Stmt := inClass (top 74) 10
abbrev s_Desk_answer_lines : Stmt := inClass (top 74) 11
abbrev s_Desk_answer_least : Stmt := inClass (top 74) 12
abbrev s_Desk_answer_begin : Stmt := inClass (top 74) 13
abbrev s_Desk_answer_steps : Stmt := inClass (top 74) 14
abbrev s_Desk_answer_look : Stmt := inClass (top 74) 15
abbrev s_Desk_answer_written : Stmt := inClass (top 74) 16
abbrev s_Desk_answer_back : Stmt := inClass (top 74) 17
structure Ad where
 C_Part : Addr
 C_Document : Addr
 C_Line : Addr
 C_Lines : Addr
 C_Pen : Addr
 C_Command : Addr
 C_Laying : Addr
 C_Desk : Addr
 f_numbers_of : Addr
 fd_numbers_of : FuncData
 f_count_inner : Addr
 fd_count_inner : FuncData
 f_count_parts : Addr
 fd_count_parts : FuncData
 f_spell_out : Addr
 fd_spell_out : FuncData
 f_make_document : Addr
 fd_make_document : FuncData
 f_lay_out : Addr
 fd_lay_out : FuncData
 f_least_width : Addr
 fd_least_width : FuncData
 f_is_text : Addr
 fd_is_text : FuncData
 f_number_is_right : Addr
 fd_number_is_right : FuncData
 f_read_numbered : Addr
 fd_read_numbered : FuncData
 f_read_part : Addr
 fd_read_part : FuncData
 f_read_parts : Addr
 fd_read_parts : FuncData
 f_call_length : Addr
 fd_call_length : FuncData
 f_answers : Addr
 fd_answers : FuncData
 f_Part___init__ : Addr
 fd_Part___init__ : FuncData
 f_Document___init__ : Addr
 fd_Document___init__ : FuncData
 f_Document_measure : Addr
 fd_Document_measure : FuncData
 f_Document_inner_places : Addr
 fd_Document_inner_places : FuncData
 f_Document_count_bytes : Addr
 fd_Document_count_bytes : FuncData
 f_Document_count_groups : Addr
 fd_Document_count_groups : FuncData
 f_Document_row_numbers : Addr
 fd_Document_row_numbers : FuncData
 f_Line___init__ : Addr
 fd_Line___init__ : FuncData
 f_Lines___init__ : Addr
 fd_Lines___init__ : FuncData
 f_Lines_take_flat_break : Addr
 fd_Lines_take_flat_break : FuncData
 f_Lines_take_text : Addr
 fd_Lines_take_text : FuncData
 f_Lines_greatest_length : Addr
 fd_Lines_greatest_length : FuncData
 f_Lines_told_numbers : Addr
 fd_Lines_told_numbers : FuncData
 f_Pen___init__ : Addr
 fd_Pen___init__ : FuncData
 f_Pen_another : Addr
 fd_Pen_another : FuncData
 f_Pen_hold : Addr
 fd_Pen_hold : FuncData
 f_Pen_take_blank : Addr
 fd_Pen_take_blank : FuncData
 f_Pen_take_break : Addr
 fd_Pen_take_break : FuncData
 f_Pen_take_gap : Addr
 fd_Pen_take_gap : FuncData
 f_Pen_take_text : Addr
 fd_Pen_take_text : FuncData
 f_Pen_text_column : Addr
 fd_Pen_text_column : FuncData
 f_Pen_held_breaks : Addr
 fd_Pen_held_breaks : FuncData
 f_Pen_held_bytes : Addr
 fd_Pen_held_bytes : FuncData
 f_Command___init__ : Addr
 fd_Command___init__ : FuncData
 f_Laying___init__ : Addr
 fd_Laying___init__ : FuncData
 f_Laying_finish : Addr
 fd_Laying_finish : FuncData
 f_Laying_advance : Addr
 fd_Laying_advance : FuncData
 f_Laying_tell_first : Addr
 fd_Laying_tell_first : FuncData
 f_Laying_step : Addr
 fd_Laying_step : FuncData
 f_Laying_write : Addr
 fd_Laying_write : FuncData
 f_Laying_step_mark : Addr
 fd_Laying_step_mark : FuncData
 f_Laying_step_group : Addr
 fd_Laying_step_group : FuncData
 f_Laying_go_inside : Addr
 fd_Laying_go_inside : FuncData
 f_Laying_fits : Addr
 fd_Laying_fits : FuncData
 f_Laying_find_reach : Addr
 fd_Laying_find_reach : FuncData
 f_Desk___init__ : Addr
 fd_Desk___init__ : FuncData
 f_Desk_answer : Addr
 fd_Desk_answer : FuncData
 f_Desk_answer_put : Addr
 fd_Desk_answer_put : FuncData
 f_Desk_answer_drop : Addr
 fd_Desk_answer_drop : FuncData
 f_Desk_holds : Addr
 fd_Desk_holds : FuncData
 f_Desk_answer_told : Addr
 fd_Desk_answer_told : FuncData
 f_Desk_answer_size : Addr
 fd_Desk_answer_size : FuncData
 f_Desk_answer_flat : Addr
 fd_Desk_answer_flat : FuncData
 f_Desk_laying_refusal : Addr
 fd_Desk_laying_refusal : FuncData
 f_Desk_answer_lay : Addr
 fd_Desk_answer_lay : FuncData
 f_Desk_answer_groups : Addr
 fd_Desk_answer_groups : FuncData
 f_Desk_answer_lines : Addr
 fd_Desk_answer_lines : FuncData
 f_Desk_answer_least : Addr
 fd_Desk_answer_least : FuncData
 f_Desk_answer_begin : Addr
 fd_Desk_answer_begin : FuncData
 f_Desk_answer_steps : Addr
 fd_Desk_answer_steps : FuncData
 f_Desk_answer_look : Addr
 fd_Desk_answer_look : FuncData
 f_Desk_answer_written : Addr
 fd_Desk_answer_written : FuncData
 f_Desk_answer_back : Addr
 fd_Desk_answer_back : FuncData
 g_GIVEN : Addr
structure Tx (A : Ad) (K : PySem.W.Frag) (mg : Str → Option Value) : Prop where
 cl_Part : Cls K A.C_Part
 mg_Part : mg "Part" = some (.ref A.C_Part)
 k_Part : Mk K A.C_Part A.f_Part___init__
 n_Part_kind : NoAttr K A.C_Part "kind"
 n_Part_number : NoAttr K A.C_Part "number"
 n_Part_text : NoAttr K A.C_Part "text"
 cl_Document : Cls K A.C_Document
 mg_Document : mg "Document" = some (.ref A.C_Document)
 k_Document : Mk K A.C_Document A.f_Document___init__
 n_Document_parts : NoAttr K A.C_Document "parts"
 n_Document_spans : NoAttr K A.C_Document "spans"
 n_Document_depths : NoAttr K A.C_Document "depths"
 n_Document_forced : NoAttr K A.C_Document "forced"
 cl_Line : Cls K A.C_Line
 mg_Line : mg "Line" = some (.ref A.C_Line)
 k_Line : Mk K A.C_Line A.f_Line___init__
 n_Line_indent : NoAttr K A.C_Line "indent"
 n_Line_length : NoAttr K A.C_Line "length"
 n_Line_flat_breaks : NoAttr K A.C_Line "flat_breaks"
 cl_Lines : Cls K A.C_Lines
 mg_Lines : mg "Lines" = some (.ref A.C_Lines)
 k_Lines : Mk K A.C_Lines A.f_Lines___init__
 n_Lines_found : NoAttr K A.C_Lines "found"
 n_Lines_waiting : NoAttr K A.C_Lines "waiting"
 cl_Pen : Cls K A.C_Pen
 mg_Pen : mg "Pen" = some (.ref A.C_Pen)
 k_Pen : Mk K A.C_Pen A.f_Pen___init__
 n_Pen_column : NoAttr K A.C_Pen "column"
 n_Pen_held : NoAttr K A.C_Pen "held"
 n_Pen_held_indent : NoAttr K A.C_Pen "held_indent"
 cl_Command : Cls K A.C_Command
 mg_Command : mg "Command" = some (.ref A.C_Command)
 k_Command : Mk K A.C_Command A.f_Command___init__
 n_Command_place : NoAttr K A.C_Command "place"
 n_Command_indent : NoAttr K A.C_Command "indent"
 n_Command_flat : NoAttr K A.C_Command "flat"
 cl_Laying : Cls K A.C_Laying
 mg_Laying : mg "Laying" = some (.ref A.C_Laying)
 k_Laying : Mk K A.C_Laying A.f_Laying___init__
 n_Laying_document : NoAttr K A.C_Laying "document"
 n_Laying_width : NoAttr K A.C_Laying "width"
 n_Laying_pen : NoAttr K A.C_Laying "pen"
 n_Laying_written : NoAttr K A.C_Laying "written"
 n_Laying_lines : NoAttr K A.C_Laying "lines"
 n_Laying_flat_groups : NoAttr K A.C_Laying "flat_groups"
 n_Laying_greatest_reach : NoAttr K A.C_Laying "greatest_reach"
 n_Laying_taken : NoAttr K A.C_Laying "taken"
 n_Laying_commands : NoAttr K A.C_Laying "commands"
 cl_Desk : Cls K A.C_Desk
 mg_Desk : mg "Desk" = some (.ref A.C_Desk)
 k_Desk : Mk K A.C_Desk A.f_Desk___init__
 n_Desk_documents : NoAttr K A.C_Desk "documents"
 n_Desk_laying : NoAttr K A.C_Desk "laying"
 F_numbers_of : Fun K "numbers_of" "numbers_of" s_numbers_of A.f_numbers_of A.fd_numbers_of
 b_numbers_of : Binds K A.fd_numbers_of ["part"] []
 mg_numbers_of : mg "numbers_of" = some (.ref A.f_numbers_of)
 kp_numbers_of : PySem.W.keepIn K (.ref A.f_numbers_of) = true
 F_count_inner : Fun K "count_inner" "count_inner" s_count_inner A.f_count_inner A.fd_count_inner
 b_count_inner : Binds K A.fd_count_inner ["part"] []
 mg_count_inner : mg "count_inner" = some (.ref A.f_count_inner)
 kp_count_inner : PySem.W.keepIn K (.ref A.f_count_inner) = true
 F_count_parts : Fun K "count_parts" "count_parts" s_count_parts A.f_count_parts A.fd_count_parts
 b_count_parts : Binds K A.fd_count_parts ["parts", "documents"] []
 mg_count_parts : mg "count_parts" = some (.ref A.f_count_parts)
 kp_count_parts : PySem.W.keepIn K (.ref A.f_count_parts) = true
 F_spell_out : Fun K "spell_out" "spell_out" s_spell_out A.f_spell_out A.fd_spell_out
 b_spell_out : Binds K A.fd_spell_out ["parts", "documents"] []
 mg_spell_out : mg "spell_out" = some (.ref A.f_spell_out)
 kp_spell_out : PySem.W.keepIn K (.ref A.f_spell_out) = true
 F_make_document : Fun K "make_document" "make_document" s_make_document A.f_make_document A.fd_make_document
 b_make_document : Binds K A.fd_make_document ["parts", "documents"] []
 mg_make_document : mg "make_document" = some (.ref A.f_make_document)
 kp_make_document : PySem.W.keepIn K (.ref A.f_make_document) = true
 F_lay_out : Fun K "lay_out" "lay_out" s_lay_out A.f_lay_out A.fd_lay_out
 b_lay_out : Binds K A.fd_lay_out ["document", "width", "flat"] []
 mg_lay_out : mg "lay_out" = some (.ref A.f_lay_out)
 kp_lay_out : PySem.W.keepIn K (.ref A.f_lay_out) = true
 F_least_width : Fun K "least_width" "least_width" s_least_width A.f_least_width A.fd_least_width
 b_least_width : Binds K A.fd_least_width ["document"] []
 mg_least_width : mg "least_width" = some (.ref A.f_least_width)
 kp_least_width : PySem.W.keepIn K (.ref A.f_least_width) = true
 F_is_text : Fun K "is_text" "is_text" s_is_text A.f_is_text A.fd_is_text
 b_is_text : Binds K A.fd_is_text ["text"] []
 mg_is_text : mg "is_text" = some (.ref A.f_is_text)
 kp_is_text : PySem.W.keepIn K (.ref A.f_is_text) = true
 F_number_is_right : Fun K "number_is_right" "number_is_right" s_number_is_right A.f_number_is_right A.fd_number_is_right
 b_number_is_right : Binds K A.fd_number_is_right ["kind", "number", "held"] []
 mg_number_is_right : mg "number_is_right" = some (.ref A.f_number_is_right)
 kp_number_is_right : PySem.W.keepIn K (.ref A.f_number_is_right) = true
 F_read_numbered : Fun K "read_numbered" "read_numbered" s_read_numbered A.f_read_numbered A.fd_read_numbered
 b_read_numbered : Binds K A.fd_read_numbered ["row", "place", "held"] []
 mg_read_numbered : mg "read_numbered" = some (.ref A.f_read_numbered)
 kp_read_numbered : PySem.W.keepIn K (.ref A.f_read_numbered) = true
 F_read_part : Fun K "read_part" "read_part" s_read_part A.f_read_part A.fd_read_part
 b_read_part : Binds K A.fd_read_part ["row", "place", "held"] []
 mg_read_part : mg "read_part" = some (.ref A.f_read_part)
 kp_read_part : PySem.W.keepIn K (.ref A.f_read_part) = true
 F_read_parts : Fun K "read_parts" "read_parts" s_read_parts A.f_read_parts A.fd_read_parts
 b_read_parts : Binds K A.fd_read_parts ["row", "held"] []
 mg_read_parts : mg "read_parts" = some (.ref A.f_read_parts)
 kp_read_parts : PySem.W.keepIn K (.ref A.f_read_parts) = true
 F_call_length : Fun K "call_length" "call_length" s_call_length A.f_call_length A.fd_call_length
 b_call_length : Binds K A.fd_call_length ["calls", "place"] []
 mg_call_length : mg "call_length" = some (.ref A.f_call_length)
 kp_call_length : PySem.W.keepIn K (.ref A.f_call_length) = true
 F_answers : Fun K "answers" "answers" s_answers A.f_answers A.fd_answers
 b_answers : Binds K A.fd_answers ["calls"] []
 mg_answers : mg "answers" = some (.ref A.f_answers)
 kp_answers : PySem.W.keepIn K (.ref A.f_answers) = true
 F_Part___init__ : Fun K "__init__" "Part.__init__" s_Part___init__ A.f_Part___init__ A.fd_Part___init__
 b_Part___init__ : Binds K A.fd_Part___init__ ["self", "kind", "number", "text"] []
 F_Document___init__ : Fun K "__init__" "Document.__init__" s_Document___init__ A.f_Document___init__ A.fd_Document___init__
 b_Document___init__ : Binds K A.fd_Document___init__ ["self", "parts"] []
 F_Document_measure : Fun K "measure" "Document.measure" s_Document_measure A.f_Document_measure A.fd_Document_measure
 b_Document_measure : Binds K A.fd_Document_measure ["self", "place"] []
 m_Document_measure : Meth K A.C_Document "measure" A.f_Document_measure
 F_Document_inner_places : Fun K "inner_places" "Document.inner_places" s_Document_inner_places A.f_Document_inner_places A.fd_Document_inner_places
 b_Document_inner_places : Binds K A.fd_Document_inner_places ["self", "place"] []
 m_Document_inner_places : Meth K A.C_Document "inner_places" A.f_Document_inner_places
 F_Document_count_bytes : Fun K "count_bytes" "Document.count_bytes" s_Document_count_bytes A.f_Document_count_bytes A.fd_Document_count_bytes
 b_Document_count_bytes : Binds K A.fd_Document_count_bytes ["self"] []
 m_Document_count_bytes : Meth K A.C_Document "count_bytes" A.f_Document_count_bytes
 F_Document_count_groups : Fun K "count_groups" "Document.count_groups" s_Document_count_groups A.f_Document_count_groups A.fd_Document_count_groups
 b_Document_count_groups : Binds K A.fd_Document_count_groups ["self"] []
 m_Document_count_groups : Meth K A.C_Document "count_groups" A.f_Document_count_groups
 F_Document_row_numbers : Fun K "row_numbers" "Document.row_numbers" s_Document_row_numbers A.f_Document_row_numbers A.fd_Document_row_numbers
 b_Document_row_numbers : Binds K A.fd_Document_row_numbers ["self"] []
 m_Document_row_numbers : Meth K A.C_Document "row_numbers" A.f_Document_row_numbers
 F_Line___init__ : Fun K "__init__" "Line.__init__" s_Line___init__ A.f_Line___init__ A.fd_Line___init__
 b_Line___init__ : Binds K A.fd_Line___init__ ["self", "indent"] []
 F_Lines___init__ : Fun K "__init__" "Lines.__init__" s_Lines___init__ A.f_Lines___init__ A.fd_Lines___init__
 b_Lines___init__ : Binds K A.fd_Lines___init__ ["self"] []
 F_Lines_take_flat_break : Fun K "take_flat_break" "Lines.take_flat_break" s_Lines_take_flat_break A.f_Lines_take_flat_break A.fd_Lines_take_flat_break
 b_Lines_take_flat_break : Binds K A.fd_Lines_take_flat_break ["self"] []
 m_Lines_take_flat_break : Meth K A.C_Lines "take_flat_break" A.f_Lines_take_flat_break
 F_Lines_take_text : Fun K "take_text" "Lines.take_text" s_Lines_take_text A.f_Lines_take_text A.fd_Lines_take_text
 b_Lines_take_text : Binds K A.fd_Lines_take_text ["self", "breaks", "column", "size"] []
 m_Lines_take_text : Meth K A.C_Lines "take_text" A.f_Lines_take_text
 F_Lines_greatest_length : Fun K "greatest_length" "Lines.greatest_length" s_Lines_greatest_length A.f_Lines_greatest_length A.fd_Lines_greatest_length
 b_Lines_greatest_length : Binds K A.fd_Lines_greatest_length ["self"] []
 m_Lines_greatest_length : Meth K A.C_Lines "greatest_length" A.f_Lines_greatest_length
 F_Lines_told_numbers : Fun K "told_numbers" "Lines.told_numbers" s_Lines_told_numbers A.f_Lines_told_numbers A.fd_Lines_told_numbers
 b_Lines_told_numbers : Binds K A.fd_Lines_told_numbers ["self"] []
 m_Lines_told_numbers : Meth K A.C_Lines "told_numbers" A.f_Lines_told_numbers
 F_Pen___init__ : Fun K "__init__" "Pen.__init__" s_Pen___init__ A.f_Pen___init__ A.fd_Pen___init__
 b_Pen___init__ : Binds K A.fd_Pen___init__ ["self", "column", "held", "held_indent"] []
 F_Pen_another : Fun K "another" "Pen.another" s_Pen_another A.f_Pen_another A.fd_Pen_another
 b_Pen_another : Binds K A.fd_Pen_another ["self"] []
 m_Pen_another : Meth K A.C_Pen "another" A.f_Pen_another
 F_Pen_hold : Fun K "hold" "Pen.hold" s_Pen_hold A.f_Pen_hold A.fd_Pen_hold
 b_Pen_hold : Binds K A.fd_Pen_hold ["self", "held", "indent"] []
 m_Pen_hold : Meth K A.C_Pen "hold" A.f_Pen_hold
 F_Pen_take_blank : Fun K "take_blank" "Pen.take_blank" s_Pen_take_blank A.f_Pen_take_blank A.fd_Pen_take_blank
 b_Pen_take_blank : Binds K A.fd_Pen_take_blank ["self"] []
 m_Pen_take_blank : Meth K A.C_Pen "take_blank" A.f_Pen_take_blank
 F_Pen_take_break : Fun K "take_break" "Pen.take_break" s_Pen_take_break A.f_Pen_take_break A.fd_Pen_take_break
 b_Pen_take_break : Binds K A.fd_Pen_take_break ["self", "indent"] []
 m_Pen_take_break : Meth K A.C_Pen "take_break" A.f_Pen_take_break
 F_Pen_take_gap : Fun K "take_gap" "Pen.take_gap" s_Pen_take_gap A.f_Pen_take_gap A.fd_Pen_take_gap
 b_Pen_take_gap : Binds K A.fd_Pen_take_gap ["self", "indent"] []
 m_Pen_take_gap : Meth K A.C_Pen "take_gap" A.f_Pen_take_gap
 F_Pen_take_text : Fun K "take_text" "Pen.take_text" s_Pen_take_text A.f_Pen_take_text A.fd_Pen_take_text
 b_Pen_take_text : Binds K A.fd_Pen_take_text ["self", "size"] []
 m_Pen_take_text : Meth K A.C_Pen "take_text" A.f_Pen_take_text
 F_Pen_text_column : Fun K "text_column" "Pen.text_column" s_Pen_text_column A.f_Pen_text_column A.fd_Pen_text_column
 b_Pen_text_column : Binds K A.fd_Pen_text_column ["self"] []
 m_Pen_text_column : Meth K A.C_Pen "text_column" A.f_Pen_text_column
 F_Pen_held_breaks : Fun K "held_breaks" "Pen.held_breaks" s_Pen_held_breaks A.f_Pen_held_breaks A.fd_Pen_held_breaks
 b_Pen_held_breaks : Binds K A.fd_Pen_held_breaks ["self"] []
 m_Pen_held_breaks : Meth K A.C_Pen "held_breaks" A.f_Pen_held_breaks
 F_Pen_held_bytes : Fun K "held_bytes" "Pen.held_bytes" s_Pen_held_bytes A.f_Pen_held_bytes A.fd_Pen_held_bytes
 b_Pen_held_bytes : Binds K A.fd_Pen_held_bytes ["self"] []
 m_Pen_held_bytes : Meth K A.C_Pen "held_bytes" A.f_Pen_held_bytes
 F_Command___init__ : Fun K "__init__" "Command.__init__" s_Command___init__ A.f_Command___init__ A.fd_Command___init__
 b_Command___init__ : Binds K A.fd_Command___init__ ["self", "place", "indent", "flat"] []
 F_Laying___init__ : Fun K "__init__" "Laying.__init__" s_Laying___init__ A.f_Laying___init__ A.fd_Laying___init__
 b_Laying___init__ : Binds K A.fd_Laying___init__ ["self", "document", "width", "flat"] []
 F_Laying_finish : Fun K "finish" "Laying.finish" s_Laying_finish A.f_Laying_finish A.fd_Laying_finish
 b_Laying_finish : Binds K A.fd_Laying_finish ["self"] []
 m_Laying_finish : Meth K A.C_Laying "finish" A.f_Laying_finish
 F_Laying_advance : Fun K "advance" "Laying.advance" s_Laying_advance A.f_Laying_advance A.fd_Laying_advance
 b_Laying_advance : Binds K A.fd_Laying_advance ["self", "count"] []
 m_Laying_advance : Meth K A.C_Laying "advance" A.f_Laying_advance
 F_Laying_tell_first : Fun K "tell_first" "Laying.tell_first" s_Laying_tell_first A.f_Laying_tell_first A.fd_Laying_tell_first
 b_Laying_tell_first : Binds K A.fd_Laying_tell_first ["self"] []
 m_Laying_tell_first : Meth K A.C_Laying "tell_first" A.f_Laying_tell_first
 F_Laying_step : Fun K "step" "Laying.step" s_Laying_step A.f_Laying_step A.fd_Laying_step
 b_Laying_step : Binds K A.fd_Laying_step ["self"] []
 m_Laying_step : Meth K A.C_Laying "step" A.f_Laying_step
 F_Laying_write : Fun K "write" "Laying.write" s_Laying_write A.f_Laying_write A.fd_Laying_write
 b_Laying_write : Binds K A.fd_Laying_write ["self", "text"] []
 m_Laying_write : Meth K A.C_Laying "write" A.f_Laying_write
 F_Laying_step_mark : Fun K "step_mark" "Laying.step_mark" s_Laying_step_mark A.f_Laying_step_mark A.fd_Laying_step_mark
 b_Laying_step_mark : Binds K A.fd_Laying_step_mark ["self", "kind", "command"] []
 m_Laying_step_mark : Meth K A.C_Laying "step_mark" A.f_Laying_step_mark
 F_Laying_step_group : Fun K "step_group" "Laying.step_group" s_Laying_step_group A.f_Laying_step_group A.fd_Laying_step_group
 b_Laying_step_group : Binds K A.fd_Laying_step_group ["self", "command"] []
 m_Laying_step_group : Meth K A.C_Laying "step_group" A.f_Laying_step_group
 F_Laying_go_inside : Fun K "go_inside" "Laying.go_inside" s_Laying_go_inside A.f_Laying_go_inside A.fd_Laying_go_inside
 b_Laying_go_inside : Binds K A.fd_Laying_go_inside ["self", "command", "indent", "flat"] []
 m_Laying_go_inside : Meth K A.C_Laying "go_inside" A.f_Laying_go_inside
 F_Laying_fits : Fun K "fits" "Laying.fits" s_Laying_fits A.f_Laying_fits A.fd_Laying_fits
 b_Laying_fits : Binds K A.fd_Laying_fits ["self", "place"] []
 m_Laying_fits : Meth K A.C_Laying "fits" A.f_Laying_fits
 F_Laying_find_reach : Fun K "find_reach" "Laying.find_reach" s_Laying_find_reach A.f_Laying_find_reach A.fd_Laying_find_reach
 b_Laying_find_reach : Binds K A.fd_Laying_find_reach ["self", "place"] []
 m_Laying_find_reach : Meth K A.C_Laying "find_reach" A.f_Laying_find_reach
 F_Desk___init__ : Fun K "__init__" "Desk.__init__" s_Desk___init__ A.f_Desk___init__ A.fd_Desk___init__
 b_Desk___init__ : Binds K A.fd_Desk___init__ ["self"] []
 F_Desk_answer : Fun K "answer" "Desk.answer" s_Desk_answer A.f_Desk_answer A.fd_Desk_answer
 b_Desk_answer : Binds K A.fd_Desk_answer ["self", "call"] []
 m_Desk_answer : Meth K A.C_Desk "answer" A.f_Desk_answer
 F_Desk_answer_put : Fun K "answer_put" "Desk.answer_put" s_Desk_answer_put A.f_Desk_answer_put A.fd_Desk_answer_put
 b_Desk_answer_put : Binds K A.fd_Desk_answer_put ["self", "row"] []
 m_Desk_answer_put : Meth K A.C_Desk "answer_put" A.f_Desk_answer_put
 F_Desk_answer_drop : Fun K "answer_drop" "Desk.answer_drop" s_Desk_answer_drop A.f_Desk_answer_drop A.fd_Desk_answer_drop
 b_Desk_answer_drop : Binds K A.fd_Desk_answer_drop ["self"] []
 m_Desk_answer_drop : Meth K A.C_Desk "answer_drop" A.f_Desk_answer_drop
 F_Desk_holds : Fun K "holds" "Desk.holds" s_Desk_holds A.f_Desk_holds A.fd_Desk_holds
 b_Desk_holds : Binds K A.fd_Desk_holds ["self", "k"] []
 m_Desk_holds : Meth K A.C_Desk "holds" A.f_Desk_holds
 F_Desk_answer_told : Fun K "answer_told" "Desk.answer_told" s_Desk_answer_told A.f_Desk_answer_told A.fd_Desk_answer_told
 b_Desk_answer_told : Binds K A.fd_Desk_answer_told ["self", "k"] []
 m_Desk_answer_told : Meth K A.C_Desk "answer_told" A.f_Desk_answer_told
 F_Desk_answer_size : Fun K "answer_size" "Desk.answer_size" s_Desk_answer_size A.f_Desk_answer_size A.fd_Desk_answer_size
 b_Desk_answer_size : Binds K A.fd_Desk_answer_size ["self", "k"] []
 m_Desk_answer_size : Meth K A.C_Desk "answer_size" A.f_Desk_answer_size
 F_Desk_answer_flat : Fun K "answer_flat" "Desk.answer_flat" s_Desk_answer_flat A.f_Desk_answer_flat A.fd_Desk_answer_flat
 b_Desk_answer_flat : Binds K A.fd_Desk_answer_flat ["self", "k"] []
 m_Desk_answer_flat : Meth K A.C_Desk "answer_flat" A.f_Desk_answer_flat
 F_Desk_laying_refusal : Fun K "laying_refusal" "Desk.laying_refusal" s_Desk_laying_refusal A.f_Desk_laying_refusal A.fd_Desk_laying_refusal
 b_Desk_laying_refusal : Binds K A.fd_Desk_laying_refusal ["self", "w", "k"] []
 m_Desk_laying_refusal : Meth K A.C_Desk "laying_refusal" A.f_Desk_laying_refusal
 F_Desk_answer_lay : Fun K "answer_lay" "Desk.answer_lay" s_Desk_answer_lay A.f_Desk_answer_lay A.fd_Desk_answer_lay
 b_Desk_answer_lay : Binds K A.fd_Desk_answer_lay ["self", "w", "k"] []
 m_Desk_answer_lay : Meth K A.C_Desk "answer_lay" A.f_Desk_answer_lay
 F_Desk_answer_groups : Fun K "answer_groups" "Desk.answer_groups" s_Desk_answer_groups A.f_Desk_answer_groups A.fd_Desk_answer_groups
 b_Desk_answer_groups : Binds K A.fd_Desk_answer_groups ["self", "w", "k"] []
 m_Desk_answer_groups : Meth K A.C_Desk "answer_groups" A.f_Desk_answer_groups
 F_Desk_answer_lines : Fun K "answer_lines" "Desk.answer_lines" s_Desk_answer_lines A.f_Desk_answer_lines A.fd_Desk_answer_lines
 b_Desk_answer_lines : Binds K A.fd_Desk_answer_lines ["self", "w", "k"] []
 m_Desk_answer_lines : Meth K A.C_Desk "answer_lines" A.f_Desk_answer_lines
 F_Desk_answer_least : Fun K "answer_least" "Desk.answer_least" s_Desk_answer_least A.f_Desk_answer_least A.fd_Desk_answer_least
 b_Desk_answer_least : Binds K A.fd_Desk_answer_least ["self", "k"] []
 m_Desk_answer_least : Meth K A.C_Desk "answer_least" A.f_Desk_answer_least
 F_Desk_answer_begin : Fun K "answer_begin" "Desk.answer_begin" s_Desk_answer_begin A.f_Desk_answer_begin A.fd_Desk_answer_begin
 b_Desk_answer_begin : Binds K A.fd_Desk_answer_begin ["self", "w", "k"] []
 m_Desk_answer_begin : Meth K A.C_Desk "answer_begin" A.f_Desk_answer_begin
 F_Desk_answer_steps : Fun K "answer_steps" "Desk.answer_steps" s_Desk_answer_steps A.f_Desk_answer_steps A.fd_Desk_answer_steps
 b_Desk_answer_steps : Binds K A.fd_Desk_answer_steps ["self", "n"] []
 m_Desk_answer_steps : Meth K A.C_Desk "answer_steps" A.f_Desk_answer_steps
 F_Desk_answer_look : Fun K "answer_look" "Desk.answer_look" s_Desk_answer_look A.f_Desk_answer_look A.fd_Desk_answer_look
 b_Desk_answer_look : Binds K A.fd_Desk_answer_look ["self"] []
 m_Desk_answer_look : Meth K A.C_Desk "answer_look" A.f_Desk_answer_look
 F_Desk_answer_written : Fun K "answer_written" "Desk.answer_written" s_Desk_answer_written A.f_Desk_answer_written A.fd_Desk_answer_written
 b_Desk_answer_written : Binds K A.fd_Desk_answer_written ["self"] []
 m_Desk_answer_written : Meth K A.C_Desk "answer_written" A.f_Desk_answer_written
 F_Desk_answer_back : Fun K "answer_back" "Desk.answer_back" s_Desk_answer_back A.f_Desk_answer_back A.fd_Desk_answer_back
 b_Desk_answer_back : Binds K A.fd_Desk_answer_back ["self", "n"] []
 m_Desk_answer_back : Meth K A.C_Desk "answer_back" A.f_Desk_answer_back
 c_TEXT : ∃ t, mg "TEXT" = some (.int 0 t)
 c_BLANK : ∃ t, mg "BLANK" = some (.int 1 t)
 c_SOFT : ∃ t, mg "SOFT" = some (.int 2 t)
 c_LINE : ∃ t, mg "LINE" = some (.int 3 t)
 c_HARD : ∃ t, mg "HARD" = some (.int 4 t)
 c_GAP : ∃ t, mg "GAP" = some (.int 5 t)
 c_ROW : ∃ t, mg "ROW" = some (.int 6 t)
 c_INDENTED : ∃ t, mg "INDENTED" = some (.int 7 t)
 c_ALIGNED : ∃ t, mg "ALIGNED" = some (.int 8 t)
 c_GROUP : ∃ t, mg "GROUP" = some (.int 9 t)
 c_NAMED : ∃ t, mg "NAMED" = some (.int 10 t)
 c_BREAK_BYTE : ∃ t, mg "BREAK_BYTE" = some (.int 10 t)
 c_BLANK_BYTE : ∃ t, mg "BLANK_BYTE" = some (.int 32 t)
 c_MOST_PARTS : ∃ t, mg "MOST_PARTS" = some (.int 600 t)
 c_MOST_DEPTH : ∃ t, mg "MOST_DEPTH" = some (.int 40 t)
 c_MOST_BYTES : ∃ t, mg "MOST_BYTES" = some (.int 4000 t)
 c_HELD_NOTHING : ∃ t, mg "HELD_NOTHING" = some (.int 0 t)
 c_HELD_BLANK : ∃ t, mg "HELD_BLANK" = some (.int 1 t)
 c_HELD_BREAK : ∃ t, mg "HELD_BREAK" = some (.int 2 t)
 c_HELD_EMPTY_LINE : ∃ t, mg "HELD_EMPTY_LINE" = some (.int 3 t)
 c_MOST_TEXT : ∃ t, mg "MOST_TEXT" = some (.int 1000 t)
 c_MOST_INDENT : ∃ t, mg "MOST_INDENT" = some (.int 8 t)
 c_MOST_OUTER : ∃ t, mg "MOST_OUTER" = some (.int 39 t)
 c_PUT : ∃ t, mg "PUT" = some (.int 0 t)
 c_DROP : ∃ t, mg "DROP" = some (.int 1 t)
 c_TOLD : ∃ t, mg "TOLD" = some (.int 2 t)
 c_SIZE : ∃ t, mg "SIZE" = some (.int 3 t)
 c_FLAT : ∃ t, mg "FLAT" = some (.int 4 t)
 c_LAY : ∃ t, mg "LAY" = some (.int 5 t)
 c_GROUPS : ∃ t, mg "GROUPS" = some (.int 6 t)
 c_LINES : ∃ t, mg "LINES" = some (.int 7 t)
 c_LEAST : ∃ t, mg "LEAST" = some (.int 8 t)
 c_BEGIN : ∃ t, mg "BEGIN" = some (.int 9 t)
 c_STEPS : ∃ t, mg "STEPS" = some (.int 10 t)
 c_LOOK : ∃ t, mg "LOOK" = some (.int 11 t)
 c_WRITTEN : ∃ t, mg "WRITTEN" = some (.int 12 t)
 c_NO_ROW : ∃ t, mg "NO_ROW" = some (.int (-1) t)
 c_NO_DOCUMENT : ∃ t, mg "NO_DOCUMENT" = some (.int (-2) t)
 c_NO_WIDTH : ∃ t, mg "NO_WIDTH" = some (.int (-3) t)
 c_TOO_LARGE : ∃ t, mg "TOO_LARGE" = some (.int (-4) t)
 c_FULL : ∃ t, mg "FULL" = some (.int (-5) t)
 c_NO_COUNT : ∃ t, mg "NO_COUNT" = some (.int (-6) t)
 c_FORCED : ∃ t, mg "FORCED" = some (.int (-7) t)
 c_TOO_LONG : ∃ t, mg "TOO_LONG" = some (.int (-8) t)
 c_NOTHING_THERE : ∃ t, mg "NOTHING_THERE" = some (.int (-9) t)
 c_MOST_HELD : ∃ t, mg "MOST_HELD" = some (.int 20 t)
 c_MOST_WIDTH : ∃ t, mg "MOST_WIDTH" = some (.int 1000 t)
 c_MOST_WRITTEN : ∃ t, mg "MOST_WRITTEN" = some (.int 20000 t)
 c_GIVEN : mg "GIVEN" = some (.ref A.g_GIVEN)
 t_GIVEN : ∀ H : Hp, SqT K H A.g_GIVEN [.int 0, .int 0, .int 1, .int 1, .int 1, .int 2, .int 2, .int 2, .int 1, .int 2, .int 1, .int 0, .int 0, .int 1]
 b_len : mg "len" = none
 b_range : mg "range" = none
 b_reversed : mg "reversed" = none
 b_sum : mg "sum" = none
 b_any : mg "any" = none
 b_all : mg "all" = none
 b_max : mg "max" = none
 b_min : mg "min" = none
theorem sc_numbers_of : FnScope ["part"] ["part"] (defScope s_numbers_of) := ⟨rfl, rfl, rfl, by decide +kernel, rfl, by decide +kernel, by decide +kernel⟩
theorem sc_count_inner : FnScope ["part"] ["part"] (defScope s_count_inner) := ⟨rfl, rfl, rfl, by decide +kernel, rfl, by decide +kernel, by decide +kernel⟩
theorem sc_count_parts : FnScope ["parts", "documents", "count", "part"] ["parts", "documents"] (defScope s_count_parts) := ⟨rfl, rfl, rfl, by decide +kernel, rfl, by decide +kernel, by decide +kernel⟩
theorem sc_spell_out : FnScope ["parts", "documents", "spelled", "part"] ["parts", "documents"] (defScope s_spell_out) := ⟨rfl, rfl, rfl, by decide +kernel, rfl, by decide +kernel, by decide +kernel⟩
theorem sc_make_document : FnScope ["parts", "documents", "document"] ["parts", "documents"] (defScope s_make_document) := ⟨rfl, rfl, rfl, by decide +kernel, rfl, by decide +kernel, by decide +kernel⟩
theorem sc_lay_out : FnScope ["document", "width", "flat", "laying"] ["document", "width", "flat"] (defScope s_lay_out) := ⟨rfl, rfl, rfl, by decide +kernel, rfl, by decide +kernel, by decide +kernel⟩
theorem sc_least_width : FnScope ["document"] ["document"] (defScope s_least_width) := ⟨rfl, rfl, rfl, by decide +kernel, rfl, by decide +kernel, by decide +kernel⟩
theorem sc_is_text : FnScope ["text", "byte"] ["text"] (defScope s_is_text) := ⟨rfl, rfl, rfl, by decide +kernel, rfl, by decide +kernel, by decide +kernel⟩
theorem sc_number_is_right : FnScope ["kind", "number", "held"] ["kind", "number", "held"] (defScope s_number_is_right) := ⟨rfl, rfl, rfl, by decide +kernel, rfl, by decide +kernel, by decide +kernel⟩
theorem sc_read_numbered : FnScope ["row", "place", "held", "kind", "number", "text"] ["row", "place", "held"] (defScope s_read_numbered) := ⟨rfl, rfl, rfl, by decide +kernel, rfl, by decide +kernel, by decide +kernel⟩
theorem sc_read_part : FnScope ["row", "place", "held"] ["row", "place", "held"] (defScope s_read_part) := ⟨rfl, rfl, rfl, by decide +kernel, rfl, by decide +kernel, by decide +kernel⟩
theorem sc_read_parts : FnScope ["row", "held", "parts", "place", "due", "part"] ["row", "held"] (defScope s_read_parts) := ⟨rfl, rfl, rfl, by decide +kernel, rfl, by decide +kernel, by decide +kernel⟩
theorem sc_call_length : FnScope ["calls", "place"] ["calls", "place"] (defScope s_call_length) := ⟨rfl, rfl, rfl, by decide +kernel, rfl, by decide +kernel, by decide +kernel⟩
theorem sc_answers : FnScope ["calls", "desk", "answered", "place", "behind", "answer"] ["calls"] (defScope s_answers) := ⟨rfl, rfl, rfl, by decide +kernel, rfl, by decide +kernel, by decide +kernel⟩
theorem sc_Part___init__ : FnScope ["self", "kind", "number", "text"] ["self", "kind", "number", "text"] (defScope s_Part___init__) := ⟨rfl, rfl, rfl, by decide +kernel, rfl, by decide +kernel, by decide +kernel⟩
theorem sc_Document___init__ : FnScope ["self", "parts", "place"] ["self", "parts"] (defScope s_Document___init__) := ⟨rfl, rfl, rfl, by decide +kernel, rfl, by decide +kernel, by decide +kernel⟩
theorem sc_Document_measure : FnScope ["self", "place", "inner", "inner_forced", "spot"] ["self", "place"] (defScope s_Document_measure) := ⟨rfl, rfl, rfl, by decide +kernel, rfl, by decide +kernel, by decide +kernel⟩
theorem sc_Document_inner_places : FnScope ["self", "place", "places", "spot"] ["self", "place"] (defScope s_Document_inner_places) := ⟨rfl, rfl, rfl, by decide +kernel, rfl, by decide +kernel, by decide +kernel⟩
theorem sc_Document_count_bytes : FnScope ["self", "part"] ["self"] (defScope s_Document_count_bytes) := ⟨rfl, rfl, rfl, by decide +kernel, rfl, by decide +kernel, by decide +kernel⟩
theorem sc_Document_count_groups : FnScope ["self", "part"] ["self"] (defScope s_Document_count_groups) := ⟨rfl, rfl, rfl, by decide +kernel, rfl, by decide +kernel, by decide +kernel⟩
theorem sc_Document_row_numbers : FnScope ["self", "numbers", "part"] ["self"] (defScope s_Document_row_numbers) := ⟨rfl, rfl, rfl, by decide +kernel, rfl, by decide +kernel, by decide +kernel⟩
theorem sc_Line___init__ : FnScope ["self", "indent"] ["self", "indent"] (defScope s_Line___init__) := ⟨rfl, rfl, rfl, by decide +kernel, rfl, by decide +kernel, by decide +kernel⟩
theorem sc_Lines___init__ : FnScope ["self"] ["self"] (defScope s_Lines___init__) := ⟨rfl, rfl, rfl, by decide +kernel, rfl, by decide +kernel, by decide +kernel⟩
theorem sc_Lines_take_flat_break : FnScope ["self"] ["self"] (defScope s_Lines_take_flat_break) := ⟨rfl, rfl, rfl, by decide +kernel, rfl, by decide +kernel, by decide +kernel⟩
theorem sc_Lines_take_text : FnScope ["self", "breaks", "column", "size", "line"] ["self", "breaks", "column", "size"] (defScope s_Lines_take_text) := ⟨rfl, rfl, rfl, by decide +kernel, rfl, by decide +kernel, by decide +kernel⟩
theorem sc_Lines_greatest_length : FnScope ["self", "line"] ["self"] (defScope s_Lines_greatest_length) := ⟨rfl, rfl, rfl, by decide +kernel, rfl, by decide +kernel, by decide +kernel⟩
theorem sc_Lines_told_numbers : FnScope ["self", "numbers", "line"] ["self"] (defScope s_Lines_told_numbers) := ⟨rfl, rfl, rfl, by decide +kernel, rfl, by decide +kernel, by decide +kernel⟩
theorem sc_Pen___init__ : FnScope ["self", "column", "held", "held_indent"] ["self", "column", "held", "held_indent"] (defScope s_Pen___init__) := ⟨rfl, rfl, rfl, by decide +kernel, rfl, by decide +kernel, by decide +kernel⟩
theorem sc_Pen_another : FnScope ["self"] ["self"] (defScope s_Pen_another) := ⟨rfl, rfl, rfl, by decide +kernel, rfl, by decide +kernel, by decide +kernel⟩
theorem sc_Pen_hold : FnScope ["self", "held", "indent"] ["self", "held", "indent"] (defScope s_Pen_hold) := ⟨rfl, rfl, rfl, by decide +kernel, rfl, by decide +kernel, by decide +kernel⟩
theorem sc_Pen_take_blank : FnScope ["self"] ["self"] (defScope s_Pen_take_blank) := ⟨rfl, rfl, rfl, by decide +kernel, rfl, by decide +kernel, by decide +kernel⟩
theorem sc_Pen_take_break : FnScope ["self", "indent"] ["self", "indent"] (defScope s_Pen_take_break) := ⟨rfl, rfl, rfl, by decide +kernel, rfl, by decide +kernel, by decide +kernel⟩
theorem sc_Pen_take_gap : FnScope ["self", "indent"] ["self", "indent"] (defScope s_Pen_take_gap) := ⟨rfl, rfl, rfl, by decide +kernel, rfl, by decide +kernel, by decide +kernel⟩
theorem sc_Pen_take_text : FnScope ["self", "size"] ["self", "size"] (defScope s_Pen_take_text) := ⟨rfl, rfl, rfl, by decide +kernel, rfl, by decide +kernel, by decide +kernel⟩
theorem sc_Pen_text_column : FnScope ["self"] ["self"] (defScope s_Pen_text_column) := ⟨rfl, rfl, rfl, by decide +kernel, rfl, by decide +kernel, by decide +kernel⟩
theorem sc_Pen_held_breaks : FnScope ["self"] ["self"] (defScope s_Pen_held_breaks) := ⟨rfl, rfl, rfl, by decide +kernel, rfl, by decide +kernel, by decide +kernel⟩
theorem sc_Pen_held_bytes : FnScope ["self"] ["self"] (defScope s_Pen_held_bytes) := ⟨rfl, rfl, rfl, by decide +kernel, rfl, by decide +kernel, by decide +kernel⟩
theorem sc_Command___init__ : FnScope ["self", "place", "indent", "flat"] ["self", "place", "indent", "flat"] (defScope s_Command___init__) := ⟨rfl, rfl, rfl, by decide +kernel, rfl, by decide +kernel, by decide +kernel⟩
theorem sc_Laying___init__ : FnScope ["self", "document", "width", "flat"] ["self", "document", "width", "flat"] (defScope s_Laying___init__) := ⟨rfl, rfl, rfl, by decide +kernel, rfl, by decide +kernel, by decide +kernel⟩
theorem sc_Laying_finish : FnScope ["self"] ["self"] (defScope s_Laying_finish) := ⟨rfl, rfl, rfl, by decide +kernel, rfl, by decide +kernel, by decide +kernel⟩
theorem sc_Laying_advance : FnScope ["self", "count", "end"] ["self", "count"] (defScope s_Laying_advance) := ⟨rfl, rfl, rfl, by decide +kernel, rfl, by decide +kernel, by decide +kernel⟩
theorem sc_Laying_tell_first : FnScope ["self", "first"] ["self"] (defScope s_Laying_tell_first) := ⟨rfl, rfl, rfl, by decide +kernel, rfl, by decide +kernel, by decide +kernel⟩
theorem sc_Laying_step : FnScope ["self", "command", "part"] ["self"] (defScope s_Laying_step) := ⟨rfl, rfl, rfl, by decide +kernel, rfl, by decide +kernel, by decide +kernel⟩
theorem sc_Laying_write : FnScope ["self", "text"] ["self", "text"] (defScope s_Laying_write) := ⟨rfl, rfl, rfl, by decide +kernel, rfl, by decide +kernel, by decide +kernel⟩
theorem sc_Laying_step_mark : FnScope ["self", "kind", "command"] ["self", "kind", "command"] (defScope s_Laying_step_mark) := ⟨rfl, rfl, rfl, by decide +kernel, rfl, by decide +kernel, by decide +kernel⟩
theorem sc_Laying_step_group : FnScope ["self", "command", "place", "flat"] ["self", "command"] (defScope s_Laying_step_group) := ⟨rfl, rfl, rfl, by decide +kernel, rfl, by decide +kernel, by decide +kernel⟩
theorem sc_Laying_go_inside : FnScope ["self", "command", "indent", "flat", "place"] ["self", "command", "indent", "flat"] (defScope s_Laying_go_inside) := ⟨rfl, rfl, rfl, by decide +kernel, rfl, by decide +kernel, by decide +kernel⟩
theorem sc_Laying_fits : FnScope ["self", "place", "reach"] ["self", "place"] (defScope s_Laying_fits) := ⟨rfl, rfl, rfl, by decide +kernel, rfl, by decide +kernel, by decide +kernel⟩
theorem sc_Laying_find_reach : FnScope ["self", "place", "parts", "behind", "pen", "reach", "spot", "kind"] ["self", "place"] (defScope s_Laying_find_reach) := ⟨rfl, rfl, rfl, by decide +kernel, rfl, by decide +kernel, by decide +kernel⟩
theorem sc_Desk___init__ : FnScope ["self"] ["self"] (defScope s_Desk___init__) := ⟨rfl, rfl, rfl, by decide +kernel, rfl, by decide +kernel, by decide +kernel⟩
theorem sc_Desk_answer : FnScope ["self", "call"] ["self", "call"] (defScope s_Desk_answer) := ⟨rfl, rfl, rfl, by decide +kernel, rfl, by decide +kernel, by decide +kernel⟩
theorem sc_Desk_answer_put : FnScope ["self", "row", "parts", "document"] ["self", "row"] (defScope s_Desk_answer_put) := ⟨rfl, rfl, rfl, by decide +kernel, rfl, by decide +kernel, by decide +kernel⟩
theorem sc_Desk_answer_drop : FnScope ["self"] ["self"] (defScope s_Desk_answer_drop) := ⟨rfl, rfl, rfl, by decide +kernel, rfl, by decide +kernel, by decide +kernel⟩
theorem sc_Desk_holds : FnScope ["self", "k"] ["self", "k"] (defScope s_Desk_holds) := ⟨rfl, rfl, rfl, by decide +kernel, rfl, by decide +kernel, by decide +kernel⟩
theorem sc_Desk_answer_told : FnScope ["self", "k", "document"] ["self", "k"] (defScope s_Desk_answer_told) := ⟨rfl, rfl, rfl, by decide +kernel, rfl, by decide +kernel, by decide +kernel⟩
theorem sc_Desk_answer_size : FnScope ["self", "k", "document", "forced"] ["self", "k"] (defScope s_Desk_answer_size) := ⟨rfl, rfl, rfl, by decide +kernel, rfl, by decide +kernel, by decide +kernel⟩
theorem sc_Desk_answer_flat : FnScope ["self", "k", "written"] ["self", "k"] (defScope s_Desk_answer_flat) := ⟨rfl, rfl, rfl, by decide +kernel, rfl, by decide +kernel, by decide +kernel⟩
theorem sc_Desk_laying_refusal : FnScope ["self", "w", "k"] ["self", "w", "k"] (defScope s_Desk_laying_refusal) := ⟨rfl, rfl, rfl, by decide +kernel, rfl, by decide +kernel, by decide +kernel⟩
theorem sc_Desk_answer_lay : FnScope ["self", "w", "k", "refusal", "laying", "lines"] ["self", "w", "k"] (defScope s_Desk_answer_lay) := ⟨rfl, rfl, rfl, by decide +kernel, rfl, by decide +kernel, by decide +kernel⟩
theorem sc_Desk_answer_groups : FnScope ["self", "w", "k", "refusal", "flat_groups"] ["self", "w", "k"] (defScope s_Desk_answer_groups) := ⟨rfl, rfl, rfl, by decide +kernel, rfl, by decide +kernel, by decide +kernel⟩
theorem sc_Desk_answer_lines : FnScope ["self", "w", "k", "refusal", "lines"] ["self", "w", "k"] (defScope s_Desk_answer_lines) := ⟨rfl, rfl, rfl, by decide +kernel, rfl, by decide +kernel, by decide +kernel⟩
theorem sc_Desk_answer_least : FnScope ["self", "k"] ["self", "k"] (defScope s_Desk_answer_least) := ⟨rfl, rfl, rfl, by decide +kernel, rfl, by decide +kernel, by decide +kernel⟩
theorem sc_Desk_answer_begin : FnScope ["self", "w", "k", "refusal"] ["self", "w", "k"] (defScope s_Desk_answer_begin) := ⟨rfl, rfl, rfl, by decide +kernel, rfl, by decide +kernel, by decide +kernel⟩
theorem sc_Desk_answer_steps : FnScope ["self", "n", "before"] ["self", "n"] (defScope s_Desk_answer_steps) := ⟨rfl, rfl, rfl, by decide +kernel, rfl, by decide +kernel, by decide +kernel⟩
theorem sc_Desk_answer_look : FnScope ["self", "laying", "pen"] ["self"] (defScope s_Desk_answer_look) := ⟨rfl, rfl, rfl, by decide +kernel, rfl, by decide +kernel, by decide +kernel⟩
theorem sc_Desk_answer_written : FnScope ["self", "written"] ["self"] (defScope s_Desk_answer_written) := ⟨rfl, rfl, rfl, by decide +kernel, rfl, by decide +kernel, by decide +kernel⟩
theorem sc_Desk_answer_back : FnScope ["self", "n", "laying"] ["self", "n"] (defScope s_Desk_answer_back) := ⟨rfl, rfl, rfl, by decide +kernel, rfl, by decide +kernel, by decide +kernel⟩
section
variable {X : Cx}
theorem pe_gint {x : Str} {i : Int} {pos : Pos} (hg : Gl X x) (h : ∃ t, X.mg x = some (.int i t)) (hd : (x == ("__debug__" : Str)) = false := by decide) : PE X (.Name x pos) (tC (.int i)) := by
 obtain ⟨t, e⟩ := h
 exact pe_glob hg e ⟨t, rfl⟩ hd
end
end WL
set_option Elab.async false
set_option linter.all false
set_option maxRecDepth 100000
set_option maxHeartbeats 2000000
namespace WL
open PySem PySem.Spec PyProof.Rows L2
def partF (p : RawP) (t : Addr) : List (Str × V) := [("kind", .int p.kind), ("number", .int p.number), ("text", .ref t)]
def intsV (l : List Int) : List V := l.map V.int
def PartAt (A : Ad) (H : Hp) (a : Addr) (p : RawP) : Prop := ∃ dx t, H a = some (.ins A.C_Part dx (partF p t)) ∧ H t = some (.lst (intsV p.text))
theorem PartAt.mono {A : Ad} {H H' : Hp} {a : Addr} {p : RawP} (s : Same H H') (h : PartAt A H a p) : PartAt A H' a p := by
 obtain ⟨dx, t, h1, h2⟩ := h
 exact ⟨dx, t, s _ _ h1, s _ _ h2⟩
theorem in_ints {k : Int} : ∀ {l : List Int}, inV (.int k) (l.map V.int) = true ↔ k ∈ l
 | [] => ⟨fun h => absurd (show false = true from h) Bool.false_ne_true, fun h => absurd h (by simp)⟩
 | a :: l => by
  show (eqV (.int a) (.int k) || inV (.int k) (l.map V.int)) = true ↔ _
  rw [Bool.or_eq_true, in_ints (l := l), List.mem_cons]
  show ((a == k) = true ∨ _) ↔ _
  rw [beq_iff_eq]
  exact ⟨fun h => h.imp Eq.symm id, fun h => h.imp Eq.symm id⟩
theorem ite_in {k : Int} (l : List Int) {A B : Prop} (h1 : k ∈ l → A) (h2 : k ∉ l → B) : if (if false = true then !inV (.int k) (l.map V.int) else inV (.int k) (l.map V.int)) = true then A else B := by
 rw [if_neg Bool.false_ne_true]
 by_cases h : k ∈ l
 ·rw [if_pos (in_ints.mpr h)]
  exact h1 h
 ·rw [if_neg fun q => h (in_ints.mp q)]
  exact h2 h
theorem ite_eqI {i j : Int} {A B : Prop} (h1 : i = j → A) (h2 : ¬ i = j → B) : if decide (V.int i = V.int j) = true then A else B := by
 by_cases h : i = j
 ·rw [if_pos (decide_eq_true (congrArg V.int h))]
  exact h1 h
 ·rw [if_neg fun q => h (V.int.inj (of_decide_eq_true q))]
  exact h2 h
theorem line_le {n : Nat} (h : n ≤ 16777216) : n ≤ sizeLine := by
 rw [sizeLine_eq]
 exact h
def sp_Part___init__ (A : Ad) : Sp := fun vs H Q _ => ∃ (a dx t : Addr) (k n : Int), vs = [.ref a, .int k, .int n, .ref t] ∧ H a = some (.ins A.C_Part dx []) ∧ Q .non (upd H a (.ins A.C_Part dx (partF ⟨k, n, []⟩ t)))
def NewInts (H : Hp) (l : List Int) (Q : VK) : Prop := ∀ (H' : Hp) (p : Addr), H p = none → Same H H' → H' p = some (.lst (intsV l)) → Q (.ref p) H'
def sp_numbers_of (A : Ad) : Sp := fun vs H Q _ => ∃ (a : Addr) (p : RawP), vs = [.ref a] ∧ PartAt A H a p ∧ p.text.length ≤ 10000 ∧ NewInts H (numbersOf p) Q
def sp_count_inner (A : Ad) : Sp := fun vs H Q _ => ∃ (a : Addr) (p : RawP), vs = [.ref a] ∧ PartAt A H a p ∧ ∀ H', Same H H' → Q (.int (inner p)) H'
section
variable {P : Program} {w : World} {K : PySem.W.Frag} {mg : Str → Option Value} {base : Heap} {A : Ad}
theorem ok_Part___init__ (T : Tx A K mg) : FnOk P w K mg base CX0 1 A.f_Part___init__ A.fd_Part___init__ ["self", "kind", "number", "text"] (sp_Part___init__ A) := by
 have nd := sc_Part___init__.nd
 refine T.F_Part___init__.ok sc_Part___init__ (fun vs H Q E h => ?_) (fun cdv Ar outer s H vs Q E hr h => ?_)
 ·obtain ⟨a, dx, t, k, n, rfl, _⟩ := h
  rfl
 ·obtain ⟨a, dx, t, k, n, rfl, ha, q⟩ := h
  refine ⟨_, (pss_cons (ps_fld (pv 0) (pv 1) rfl) (pss_cons (ps_fld (pv 0) (pv 2) rfl) (pss_one (ps_fld (pv 0) (pv 3) rfl)))), ?_⟩
  refine ⟨_, rfl, _, rfl, a, _, dx, _, rfl, ha, T.cl_Part, T.n_Part_kind, (by show 0 < 1000; decide), ?_⟩
  refine ⟨_, rfl, _, rfl, a, _, dx, _, rfl, upd_same, T.cl_Part, T.n_Part_number, (by show 1 < 1000; decide), ?_⟩
  rw [upd_upd]
  refine ⟨_, rfl, _, rfl, a, _, dx, _, rfl, upd_same, T.cl_Part, T.n_Part_text, (by show 2 < 1000; decide), ?_⟩
  rw [upd_upd]
  exact q
theorem ok_numbers_of (T : Tx A K mg) : FnOk P w K mg base CX0 1 A.f_numbers_of A.fd_numbers_of ["part"] (sp_numbers_of A) := by
 have nd := sc_numbers_of.nd
 refine T.F_numbers_of.ok sc_numbers_of (fun vs H Q E h => ?_) (fun cdv Ar outer s H vs Q E hr h => ?_)
 ·obtain ⟨a, p, rfl, _⟩ := h
  rfl
 ·obtain ⟨a, p, rfl, ⟨dx, t, ha, ht⟩, hl, q⟩ := h
  refine ⟨_, (pss_cons (ps_if (pt_cmpR op_in_seq (pe_fld (pv 0) rfl) (pe_tup (pa_cons (pe_gint rfl T.c_TEXT) (pa_cons (pe_gint rfl T.c_ROW) (pa_cons (pe_gint rfl T.c_INDENTED) (pa_cons (pe_gint rfl T.c_NAMED) pa_nil))))) (by with_unfolding_all rfl)) (pss_one (ps_ret (pe_op op_cat (pe_lst (pa_cons (pe_fld (pv 0) rfl) (pa_cons (pe_fld (pv 0) rfl) pa_nil))) (pe_fld (pv 0) rfl)))) pss_nil) (pss_one (ps_ret (pe_lst (pa_cons (pe_fld (pv 0) rfl) pa_nil))))), ?_⟩
  refine ⟨_, rfl, a, _, dx, _, _, rfl, ha, T.cl_Part, T.n_Part_kind, rfl, ?_⟩
  refine ⟨(by show 4 ≤ sizeLine; decide), fun c hc => ?_⟩
  have s := same_upd (o := .tup [.int 0, .int 6, .int 7, .int 10]) hc
  refine ⟨c, [.int 0, .int 6, .int 7, .int 10], rfl, .inr (SqT.of upd_same), rfl, rfl, _, rfl, ?_⟩
  refine ite_in [0, 6, 7, 10] (fun hk => ?_) (fun hk => ?_)
  ·have e1 : numbersOf p = p.kind :: p.number :: p.text := if_pos (by simpa using hk)
   refine ⟨_, rfl, a, _, dx, _, _, rfl, s _ _ ha, T.cl_Part, T.n_Part_kind, rfl, _, rfl, a, _, dx, _, _, rfl, s _ _ ha, T.cl_Part, T.n_Part_number, rfl, (by show 2 ≤ sizeLine; decide), fun l hl' => ?_⟩
   have s2 := s.trans (same_upd (o := .lst [.int p.kind, .int p.number]) hl')
   refine ⟨_, rfl, a, _, dx, _, _, rfl, s2 _ _ ha, T.cl_Part, T.n_Part_text, rfl, l, t, _, _, rfl, rfl, upd_same, s2 _ _ ht, line_le (by simp [intsV]; omega), fun r hr' => ?_⟩
   refine q _ r (s2.free hr') (s2.trans (same_upd hr')) ?_
   rw [upd_same, e1]
   rfl
  ·have e1 : numbersOf p = [p.kind] := if_neg (by simpa using hk)
   refine ⟨_, rfl, a, _, dx, _, _, rfl, s _ _ ha, T.cl_Part, T.n_Part_kind, rfl, (by show 1 ≤ sizeLine; decide), fun l hl' => ?_⟩
   refine q _ l (s.free hl') (s.trans (same_upd hl')) ?_
   rw [upd_same, e1]
   rfl
theorem ok_count_inner (T : Tx A K mg) : FnOk P w K mg base CX0 1 A.f_count_inner A.fd_count_inner ["part"] (sp_count_inner A) := by
 have nd := sc_count_inner.nd
 refine T.F_count_inner.ok sc_count_inner (fun vs H Q E h => ?_) (fun cdv Ar outer s H vs Q E hr h => ?_)
 ·obtain ⟨a, p, rfl, _⟩ := h
  rfl
 ·obtain ⟨a, p, rfl, ⟨dx, t, ha, ht⟩, q⟩ := h
  refine ⟨_, (pss_cons (ps_if (pt_cmpR op_eq (pe_fld (pv 0) rfl) (pe_gint rfl T.c_ROW) (nomark _)) (pss_one (ps_ret (pe_fld (pv 0) rfl))) pss_nil) (pss_cons (ps_if (pt_cmpR op_in_seq (pe_fld (pv 0) rfl) (pe_tup (pa_cons (pe_gint rfl T.c_INDENTED) (pa_cons (pe_gint rfl T.c_ALIGNED) (pa_cons (pe_gint rfl T.c_GROUP) pa_nil)))) (by with_unfolding_all rfl)) (pss_one (ps_ret pe_int)) pss_nil) (pss_one (ps_ret pe_int)))), ?_⟩
  refine ⟨_, rfl, a, _, dx, _, _, rfl, ha, T.cl_Part, T.n_Part_kind, rfl, rfl, _, rfl, ?_⟩
  refine ite_eqI (fun hk => ?_) (fun hk => ?_)
  ·refine ⟨_, rfl, a, _, dx, _, _, rfl, ha, T.cl_Part, T.n_Part_number, rfl, ?_⟩
   have e1 : inner p = p.number := if_pos hk
   rw [← e1]
   exact q _ (.refl _)
  ·refine ⟨_, rfl, a, _, dx, _, _, rfl, ha, T.cl_Part, T.n_Part_kind, rfl, ?_⟩
   refine ⟨(by show 3 ≤ sizeLine; decide), fun c hc => ?_⟩
   have s := same_upd (o := .tup [.int 7, .int 8, .int 9]) hc
   refine ⟨c, [.int 7, .int 8, .int 9], rfl, .inr (SqT.of upd_same), rfl, rfl, _, rfl, ?_⟩
   refine ite_in [7, 8, 9] (fun hk2 => ?_) (fun hk2 => ?_)
   ·have e1 : inner p = 1 := (if_neg hk).trans (if_pos (by simpa using hk2))
    show Q (.int 1) _
    rw [← e1]
    exact q _ s
   ·have e1 : inner p = 0 := (if_neg hk).trans (if_neg (by simpa using hk2))
    show Q (.int 0) _
    rw [← e1]
    exact q _ s
end
end WL
set_option Elab.async false
set_option linter.all false
set_option maxRecDepth 100000
set_option maxHeartbeats 2000000
namespace WL
open PySem PySem.Spec PyProof.Rows L2
open Vafmtb (Doc)
theorem ite_dec {c A B : Prop} [Decidable c] (h1 : c → A) (h2 : ¬ c → B) : if decide c = true then A else B := by
 by_cases h : c
 ·rw [if_pos (decide_eq_true h)]
  exact h1 h
 ·rw [if_neg fun q => h (of_decide_eq_true q)]
  exact h2 h
def PartsAt (A : Ad) (H : Hp) (l : Addr) (ps : List RawP) : Prop := ∃ as : List Addr, H l = some (.lst (as.map V.ref)) ∧ Paired (fun a p => PartAt A H a p) as ps
theorem PartsAt.mono {A : Ad} {H H' : Hp} {l : Addr} {ps : List RawP} (s : Same H H') (h : PartsAt A H l ps) : PartsAt A H' l ps := by
 obtain ⟨as, h1, h2⟩ := h
 exact ⟨as, s _ _ h1, Paired.mapP h2 fun _ _ q => q.mono s⟩
theorem paired_back {α β : Type} {G : α → β → Prop} {l1 : List α} {l2 : List β} (h : Paired G l1 l2) : ∀ {i : Nat} {b : β}, l2[i]? = some b → ∃ a, l1[i]? = some a ∧ G a b := by
 induction h with
 | nil => intro i b e; simp at e
 | cons r _ ih =>
  intro i b e
  cases i with
  | zero =>
   have e' := Option.some.inj e
   subst e'
   exact ⟨_, rfl, r⟩
  | succ i => exact ih e
theorem PartsAt.get {A : Ad} {H : Hp} {l : Addr} {ps : List RawP} (h : PartsAt A H l ps) {i : Nat} {p : RawP} (e : ps[i]? = some p) : ∃ (as : List Addr) (a : Addr), H l = some (.lst (as.map V.ref)) ∧ (as.map V.ref)[i]? = some (V.ref a) ∧ PartAt A H a p := by
 obtain ⟨as, h1, h2⟩ := h
 obtain ⟨a, ha, hp⟩ := paired_back h2 e
 exact ⟨as, a, h1, by rw [List.getElem?_map, ha]; rfl, hp⟩
def docF (pl sl dl fl : Addr) : List (Str × V) := [("parts", .ref pl), ("spans", .ref sl), ("depths", .ref dl), ("forced", .ref fl)]
def sizes (d : Doc) : List Int := (subs d).map fun e => (e.size : Int)
def depths (d : Doc) : List Int := (subs d).map fun e => (e.depth : Int)
def forceds (d : Doc) : List V := (subs d).map fun e => V.bl e.forced
theorem sizes_get {d e : Doc} {q : Nat} (h : (subs d)[q]? = some e) : (sizes d)[q]? = some (e.size : Int) := by
 unfold sizes
 rw [List.getElem?_map, h]
 rfl
theorem intsV_get {l : List Int} {i : Nat} {z : Int} (h : l[i]? = some z) : (intsV l)[i]? = some (.int z) := by
 unfold intsV
 rw [List.getElem?_map, h]
 rfl
theorem intsV_append (a b : List Int) : intsV (a ++ b) = intsV a ++ intsV b := List.map_append
theorem raw_get {d e : Doc} {q : Nat} (h : (subs d)[q]? = some e) : ((subs d).map raw)[q]? = some (raw e) := by
 rw [List.getElem?_map, h]
 rfl
def sp_Document_inner_places (A : Ad) : Sp := fun vs H Q _ => ∃ (a dx pl sl dl fl : Addr) (d e : Doc) (p : Nat) (sps : List Int), vs = [.ref a, .int p] ∧ H a = some (.ins A.C_Document dx (docF pl sl dl fl)) ∧ PartsAt A H pl ((subs d).map raw) ∧
 H sl = some (.lst (intsV sps)) ∧ (subs d)[p]? = some e ∧ (∀ q u, p < q → (subs d)[q]? = some u → sps[q]? = some (u.size : Int)) ∧ d.size ≤ 600 ∧ NewInts H ((innerPlaces p e).map fun (z : Nat) => (z : Int)) Q
section
variable {P : Program} {w : World} {K : PySem.W.Frag} {mg : Str → Option Value} {base : Heap} {A : Ad}
theorem ok_Document_inner_places (T : Tx A K mg) : FnOk P w K mg base CX0 2 A.f_Document_inner_places A.fd_Document_inner_places ["self", "place"] (sp_Document_inner_places A) := by
 have nd := sc_Document_inner_places.nd
 refine T.F_Document_inner_places.ok sc_Document_inner_places (fun vs H Q E h => ?_) (fun cdv Ar outer s H vs Q E hr h => ?_)
 ·obtain ⟨a, dx, pl, sl, dl, fl, d, e, p, sps, rfl, _⟩ := h
  rfl
 ·obtain ⟨a, dx, pl, sl, dl, fl, d, e, p, sps, rfl, ha, hp, hs, he, hsp, hsz, q⟩ := h
  obtain ⟨rest, hrest⟩ := kids_drop he
  obtain ⟨as, pa, hpl, hpa, hpp⟩ := hp.get (raw_get he)
  have klen : (kids e).length ≤ 600 := by
   have h1 : ((subs d).drop (p + 1)).length = (subsAll (kids e) ++ rest).length := by rw [hrest]
   rw [List.length_drop, List.length_append, subs_length, subsAll_length] at h1
   have h2 : (kids e).length ≤ Vafmtb.sizeAll (kids e) := by
    generalize kids e = l
    induction l with
    | nil => exact Nat.le_refl _
    | cons x l ih =>
     show l.length + 1 ≤ x.size + Vafmtb.sizeAll l
     have := size_pos x
     omega
   omega
  refine ⟨_, (pss_cons (ps_set (i := 2) nd rfl (by first | exact Or.inl rfl | exact Or.inr rfl) (pe_lst pa_nil)) (pss_cons (ps_set (i := 3) nd rfl (by first | exact Or.inl rfl | exact Or.inr rfl) (pe_op op_add (pv 1) pe_int)) (pss_cons (ps_while PassesOwn.never (pt_cmpR op_lt (pe_callB call_lenR rfl T.b_len PySem.boot_len (pa_cons (pv 2) pa_nil)) (pe_call (ok_count_inner T) (hr.mono (by decide)) rfl T.mg_count_inner T.kp_count_inner T.b_count_inner .nil pass0 (pa_cons (pe_ix ix_list (pe_fld (pv 0) rfl) (pv 1) (fun _ _ => rfl)) pa_nil)) (nomark _)) (pss_cons (ps_expr (pe_bm PySem.F.plainAttrs_list PySem.F.slot_list_append PySem.F.type_list_append mt_append (pv 2) (pa_cons (pv 3) pa_nil))) (pss_one (ps_aug (i := 3) nd rfl (by first | exact Or.inl rfl | exact Or.inr rfl) (pe_ix ix_list (pe_fld (pv 0) rfl) (pv 3) (fun _ _ => rfl)) ip_add)))) (pss_one (ps_ret (pv 2)))))), ?_⟩
  refine ⟨Nat.zero_le _, fun l hl => ⟨_, rfl, _, _, rfl, rfl, ?_⟩⟩
  refine ⟨fun m σ H' => ∃ i, i + m = (kids e).length ∧ σ = [some (.ref a), some (.int p), some (.ref l), some (.int ((p + 1 + Vafmtb.sizeAll ((kids e).take i) : Nat) : Int))] ∧
   H' l = some (.lst (intsV ((placesFrom (p + 1) ((kids e).take i)).map fun (z : Nat) => (z : Int)))) ∧ Same H H', ⟨(kids e).length, 0, Nat.zero_add _, rfl, upd_same, same_upd hl⟩, ?_⟩
  rintro m σ H' ⟨i, him, rfl, hl', s⟩
  refine ⟨_, rfl, l, _, rfl, .inl (SqL.of hl'), _, rfl, a, _, dx, _, _, rfl, s _ _ ha, T.cl_Document, T.n_Document_parts, rfl, _, rfl, pl, _, _, _, rfl, rfl, SqL.of (s _ _ hpl), atI_nat hpa, pa, _, rfl, hpp.mono s, fun H2 s2 => ?_⟩
  have s3 := s.trans s2
  refine ⟨_, _, rfl, rfl, _, rfl, ite_dec (fun hk => ?_) (fun hk => ?_)⟩
  ·rw [inner_raw, intsV, List.length_map, List.length_map, placesFrom_length, List.length_take] at hk
   have hi : i < (kids e).length := by omega
   have hu : (kids e)[i]? = some ((kids e)[i]'hi) := List.getElem?_eq_getElem hi
   have et : (kids e).take (i + 1) = (kids e).take i ++ [(kids e)[i]'hi] := by
    rw [List.take_succ, hu]
    rfl
   obtain ⟨z, hz1, hz2, hz3, hz4⟩ := placesFrom_at (all := subs d) (kids e) (p + 1) rest hrest i _ hu
   have ez : z = p + 1 + Vafmtb.sizeAll ((kids e).take i) := by
    have h1 : (kids e) = (kids e).take i ++ (kids e).drop i := (List.take_append_drop i _).symm
    have h2 : (placesFrom (p + 1) (kids e))[i]? = some (p + 1 + Vafmtb.sizeAll ((kids e).take i)) := by
     have hl1 : ((kids e).take i).length = i := by
      rw [List.length_take]
      omega
     conv => lhs; rw [h1]
     rw [placesFrom_append, List.getElem?_append_right (by rw [placesFrom_length]; omega), placesFrom_length, hl1, Nat.sub_self, List.drop_eq_getElem_cons hi]
     rfl
    rw [hz1] at h2
    exact Option.some.inj h2
   have hb := hsp z _ (by omega) hz2
   rw [ez] at hb
   refine ⟨fun σ' H' => ∃ m', m' < m ∧ ∃ i, i + m' = (kids e).length ∧ σ' = [some (.ref a), some (.int p), some (.ref l), some (.int ((p + 1 + Vafmtb.sizeAll ((kids e).take i) : Nat) : Int))] ∧
    H' l = some (.lst (intsV ((placesFrom (p + 1) ((kids e).take i)).map fun (z : Nat) => (z : Int)))) ∧ Same H H', fun _ _ h => h, ?_⟩
   refine ⟨_, rfl, .inl ⟨rfl, _, SqL.of (s2 _ _ hl')⟩, _, rfl, l, _, _, rfl, rfl, s2 _ _ hl', ?_, ?_⟩
   ·rw [intsV, List.length_map, List.length_map, placesFrom_length, List.length_take]
    refine Nat.lt_of_lt_of_le (m := 1000) (by omega) (line_le (by omega))
   ·have s4 : Same H (upd H2 l (.lst (intsV ((placesFrom (p + 1) ((kids e).take i)).map fun (z : Nat) => (z : Int)) ++ [.int ((p + 1 + Vafmtb.sizeAll ((kids e).take i) : Nat) : Int)]))) := s3.wr hl
    refine ⟨_, rfl, _, rfl, a, _, dx, _, _, rfl, s4 _ _ ha, T.cl_Document, T.n_Document_spans, rfl, _, rfl, sl, _, _, _, rfl, rfl, SqL.of (s4 _ _ hs), atI_nat (intsV_get hb), _, _, rfl, rfl, ?_⟩
    refine ⟨m - 1, by omega, i + 1, by omega, ?_, ?_, s4⟩
    ·have e2 : Vafmtb.sizeAll ((kids e).take i ++ [(kids e)[i]'hi]) = Vafmtb.sizeAll ((kids e).take i) + ((kids e)[i]'hi).size := by
      rw [← subsAll_length, subsAll_append, List.length_append, subsAll_length, subsAll_one, subs_length]
     have e3 : (((p + 1 + Vafmtb.sizeAll ((kids e).take i) : Nat) : Int) + (((kids e)[i]'hi).size : Int)) = ((p + 1 + Vafmtb.sizeAll ((kids e).take (i + 1)) : Nat) : Int) := by
      rw [et, e2]
      omega
     rw [← e3]
     rfl
    ·rw [upd_same, et, placesFrom_append, List.map_append, intsV_append]
     rfl
  ·rw [inner_raw, intsV, List.length_map, List.length_map, placesFrom_length, List.length_take] at hk
   have hi : i = (kids e).length := by omega
   subst hi
   refine ⟨_, rfl, q _ l hl s3 ?_⟩
   rw [List.take_length] at hl'
   exact s2 _ _ hl'
end
end WL
set_option Elab.async false
set_option linter.all false
set_option maxRecDepth 100000
set_option maxHeartbeats 2000000
namespace WL
open PySem PySem.Spec PyProof.Rows L2
open Vafmtb (Doc)
def meas {α : Type} (x : α) (j : Nat) (l : List α) : List α := List.replicate j x ++ l.drop j
theorem meas_get {α : Type} {x y : α} {j q : Nat} {l : List α} (h : l[q]? = some y) (hq : j ≤ q) : (meas x j l)[q]? = some y := by
 unfold meas
 rw [List.getElem?_append_right (by rw [List.length_replicate]; exact hq), List.length_replicate, List.getElem?_drop, show j + (q - j) = q by omega]
 exact h
theorem meas_set {α : Type} {x y : α} {p : Nat} {l : List α} (h : l[p]? = some y) : (meas x (p + 1) l).set p y = meas x p l := by
 have hp : p < l.length := (List.getElem?_eq_some_iff.mp h).1
 have e : l.drop p = y :: l.drop (p + 1) := by
  rw [List.drop_eq_getElem_cons hp]
  rw [List.getElem?_eq_getElem hp] at h
  rw [Option.some.inj h]
 unfold meas
 rw [e, List.replicate_succ', List.append_assoc, List.set_append_right _ _ (by simp)]
 simp
theorem meas_length {α : Type} {x : α} {j : Nat} {l : List α} (h : j ≤ l.length) : (meas x j l).length = l.length := by
 unfold meas
 rw [List.length_append, List.length_replicate, List.length_drop]
 omega
theorem meas_all {α : Type} (x : α) (l : List α) : meas x l.length l = List.replicate l.length x := by
 unfold meas
 rw [List.drop_length, List.append_nil]
theorem ixN_nat {n p : Nat} (h : p < n) : ixN n (p : Int) = some p := by
 unfold ixN
 rw [if_pos (by omega), if_pos (by omega), Int.toNat_natCast]
theorem sum_kids : ∀ l : List Doc, (l.map fun k => (k.size : Int)).sum = (Vafmtb.sizeAll l : Int)
 | [] => rfl
 | k :: l => by
  rw [List.map_cons, List.sum_cons, sum_kids l]
  show _ = ((k.size + Vafmtb.sizeAll l : Nat) : Int)
  omega
theorem max_fold : ∀ (l : List Doc) (a : Nat), (l.map fun k => (k.depth : Int)).foldl (fun m y => if y > m then y else m) (a : Int) = ((max a (Vafmtb.depthAll l) : Nat) : Int)
 | [], a => by
  show (a : Int) = ((max a 0 : Nat) : Int)
  rw [Nat.max_zero]
 | k :: l, a => by
  rw [List.map_cons, List.foldl_cons]
  have e : (if (k.depth : Int) > (a : Int) then (k.depth : Int) else (a : Int)) = ((max a k.depth : Nat) : Int) := by
   by_cases h : (k.depth : Int) > (a : Int)
   ·rw [if_pos h, Nat.max_eq_right (by omega)]
   ·rw [if_neg h, Nat.max_eq_left (by omega)]
  rw [e, max_fold l]
  show _ = ((max a (max k.depth (Vafmtb.depthAll l)) : Nat) : Int)
  rw [Nat.max_assoc]
theorem max_kids (l : List Doc) : maxInts (l.map fun k => (k.depth : Int)) 0 = (Vafmtb.depthAll l : Int) := by
 cases l with
 | nil => rfl
 | cons k l => exact max_fold l k.depth
theorem kid_at {d e : Doc} {p : Nat} (he : (subs d)[p]? = some e) {i : Nat} {x : V} (h : (intsV ((innerPlaces p e).map fun (z : Nat) => (z : Int)))[i]? = some x) : ∃ (z : Nat) (k : Doc), x = .int z ∧ (kids e)[i]? = some k ∧ (subs d)[z]? = some k ∧ p < z := by
 obtain ⟨rest, hrest⟩ := kids_drop he
 have hi : i < (kids e).length := by
  have := (List.getElem?_eq_some_iff.mp h).1
  rw [intsV, List.length_map, List.length_map, innerPlaces, placesFrom_length] at this
  exact this
 have hu : (kids e)[i]? = some ((kids e)[i]'hi) := List.getElem?_eq_getElem hi
 obtain ⟨z, h1, h2, h3, _⟩ := placesFrom_at (all := subs d) (kids e) (p + 1) rest hrest i _ hu
 refine ⟨z, _, ?_, hu, h2, by omega⟩
 unfold intsV at h
 rw [List.getElem?_map, List.getElem?_map, innerPlaces, h1] at h
 exact (Option.some.inj h).symm
theorem kids_len : ∀ l : List Doc, l.length ≤ Vafmtb.sizeAll l
 | [] => Nat.le_refl _
 | x :: l => by
  show l.length + 1 ≤ x.size + Vafmtb.sizeAll l
  have := size_pos x
  have := kids_len l
  omega
theorem kids_le {d e : Doc} {p : Nat} (he : (subs d)[p]? = some e) : (kids e).length ≤ d.size := by
 obtain ⟨rest, hrest⟩ := kids_drop he
 have h1 : ((subs d).drop (p + 1)).length = (subsAll (kids e) ++ rest).length := by rw [hrest]
 rw [List.length_drop, List.length_append, subs_length, subsAll_length] at h1
 have h2 := kids_len (kids e)
 omega
structure DocW (A : Ad) (H0 H : Hp) (a dx pl sl dl fl : Addr) (d : Doc) (j : Nat) : Prop where
 at_ : H a = some (.ins A.C_Document dx (docF pl sl dl fl))
 base : Same H0 H
 parts : PartsAt A H0 pl ((subs d).map raw)
 sp : H sl = some (.lst (intsV (meas 1 j (sizes d))))
 dp : H dl = some (.lst (intsV (meas 1 j (depths d))))
 fo : H fl = some (.lst (meas (.bl false) j (forceds d)))
 n0 : H0 sl = none
 n1 : H0 dl = none
 n2 : H0 fl = none
 n3 : H0 a = none
 d01 : sl ≠ dl
 d02 : sl ≠ fl
 d12 : dl ≠ fl
theorem depths_get {d e : Doc} {q : Nat} (h : (subs d)[q]? = some e) : (depths d)[q]? = some (e.depth : Int) := by
 unfold depths
 rw [List.getElem?_map, h]
 rfl
theorem forceds_get {d e : Doc} {q : Nat} (h : (subs d)[q]? = some e) : (forceds d)[q]? = some (V.bl e.forced) := by
 unfold forceds
 rw [List.getElem?_map, h]
 rfl
theorem intsV_set (l : List Int) (i : Nat) (z : Int) : (intsV l).set i (.int z) = intsV (l.set i z) := by
 unfold intsV
 rw [List.map_set]
theorem intsV_length (l : List Int) : (intsV l).length = l.length := List.length_map ..
def sp_Document_measure (A : Ad) : Sp := fun vs H Q _ => ∃ (H0 : Hp) (a dx pl sl dl fl : Addr) (d e : Doc) (p : Nat), vs = [.ref a, .int p] ∧ DocW A H0 H a dx pl sl dl fl d (p + 1) ∧ (subs d)[p]? = some e ∧ d.size ≤ 600 ∧
 ∀ H', DocW A H0 H' a dx pl sl dl fl d p → Q .non H'
section
variable {P : Program} {w : World} {K : PySem.W.Frag} {mg : Str → Option Value} {base : Heap} {A : Ad}
theorem ok_Document_measure (T : Tx A K mg) : FnOk P w K mg base CX0 3 A.f_Document_measure A.fd_Document_measure ["self", "place"] (sp_Document_measure A) := by
 have nd := sc_Document_measure.nd
 refine T.F_Document_measure.ok sc_Document_measure (fun vs H Q E h => ?_) (fun cdv Ar outer s H vs Q E hr h => ?_)
 ·obtain ⟨H0, a, dx, pl, sl, dl, fl, d, e, p, rfl, _⟩ := h
  rfl
 ·obtain ⟨H0, a, dx, pl, sl, dl, fl, d, e, p, rfl, W, he, hsz, q⟩ := h
  have hpd : p < d.size := by
   have := (List.getElem?_eq_some_iff.mp he).1
   rw [subs_length] at this
   exact this
  have ls : (sizes d).length = d.size := by rw [sizes, List.length_map, subs_length]
  have ld : (depths d).length = d.size := by rw [depths, List.length_map, subs_length]
  have lf : (forceds d).length = d.size := by rw [forceds, List.length_map, subs_length]
  refine ⟨_, (pss_cons (ps_set (i := 2) nd rfl (by first | exact Or.inl rfl | exact Or.inr rfl) (pe_meth (pv 0) T.cl_Document T.m_Document_inner_places (ok_Document_inner_places T) (hr.mono (by decide)) T.b_Document_inner_places .nil pass0 (pa_cons (pv 1) pa_nil))) (pss_cons (ps_asg (pe_op op_add pe_int (pe_callB (call_sum rfl) rfl T.b_sum boot_sum (pa_cons (pe_lc (te := (tOp (rIxL K) (tFld K (tVar 0) "spans") (tVar 4))) (own := [("spot", 4)]) rfl nd (pi_list (pv 2)) (show BlkOk ["self", "place", "inner", "inner_forced", "spot"] (defScope s_Document_measure) _ _ from ⟨rfl, by decide +kernel, by decide +kernel, by decide +kernel, by decide +kernel⟩) (fun _ _ _ _ _ => pg_name (i := 4) nd rfl (Or.inl rfl)) (fun _ _ _ _ _ => pts_nil) (fun _ _ _ _ _ => (pe_ix ix_list (pe_fld (pv 0) rfl) (pv 4) (fun _ _ => rfl)))) pa_nil))) (pg_sub (pe_fld (pv 0) rfl) (pv 1) set_list)) (pss_cons (ps_asg (pe_op op_add pe_int (pe_maxD rfl rfl T.b_max (pe_lc (te := (tOp (rIxL K) (tFld K (tVar 0) "depths") (tVar 4))) (own := [("spot", 4)]) rfl nd (pi_list (pv 2)) (show BlkOk ["self", "place", "inner", "inner_forced", "spot"] (defScope s_Document_measure) _ _ from ⟨rfl, by decide +kernel, by decide +kernel, by decide +kernel, by decide +kernel⟩) (fun _ _ _ _ _ => pg_name (i := 4) nd rfl (Or.inl rfl)) (fun _ _ _ _ _ => pts_nil) (fun _ _ _ _ _ => (pe_ix ix_list (pe_fld (pv 0) rfl) (pv 4) (fun _ _ => rfl)))) pe_int)) (pg_sub (pe_fld (pv 0) rfl) (pv 1) set_list)) (pss_cons (ps_set (i := 3) nd rfl (by first | exact Or.inl rfl | exact Or.inr rfl) (pe_callB (call_any rfl) rfl T.b_any boot_any (pa_cons (pe_lc (te := (tOp (rIxL K) (tFld K (tVar 0) "forced") (tVar 4))) (own := [("spot", 4)]) rfl nd (pi_list (pv 2)) (show BlkOk ["self", "place", "inner", "inner_forced", "spot"] (defScope s_Document_measure) _ _ from ⟨rfl, by decide +kernel, by decide +kernel, by decide +kernel, by decide +kernel⟩) (fun _ _ _ _ _ => pg_name (i := 4) nd rfl (Or.inl rfl)) (fun _ _ _ _ _ => pts_nil) (fun _ _ _ _ _ => (pe_ix ix_list (pe_fld (pv 0) rfl) (pv 4) (fun _ _ => rfl)))) pa_nil))) (pss_one (ps_asg (pe_or (pv 3) (pe_one (pe_cmpR op_in_seq (pe_fld (pe_ix ix_list (pe_fld (pv 0) rfl) (pv 1) (fun _ _ => rfl)) rfl) (pe_tup (pa_cons (pe_gint rfl T.c_HARD) (pa_cons (pe_gint rfl T.c_GAP) pa_nil))) (by with_unfolding_all rfl)))) (pg_sub (pe_fld (pv 0) rfl) (pv 1) set_list))))))), ?_⟩
  refine ⟨_, rfl, a, dx, _, rfl, W.at_, rfl, _, rfl, a, dx, pl, sl, dl, fl, d, e, p, _, rfl, W.at_, W.parts.mono W.base, W.sp, he, fun z u hz hu => meas_get (sizes_get hu) hz, hsz, fun H1 l hl s1 hl1 => ?_⟩
  have klen : (kids e).length ≤ sizeLine := line_le (by have := kids_le he; omega)
  have lk : ∀ {α : Type} (f : Doc → α), ((kids e).map f).length = (intsV ((innerPlaces p e).map fun (z : Nat) => (z : Int))).length := fun f => by
   rw [intsV_length, List.length_map, List.length_map, innerPlaces, placesFrom_length]
  dsimp only [gName, tSeq, tAsg, tOp, tC, tCB, tCons]
  refine lcv ((kids e).map fun k => V.int k.size) (by rfl) (SqL.of hl1) (lk _) (by rw [List.length_map]; exact klen) (fun i x y H' hx hy s' R hR => ?_) fun D1 H2 hD1 s2 hd1 => ?_
  ·obtain ⟨z, k, rfl, hk, hz, hpz⟩ := kid_at he hx
   rw [List.getElem?_map, hk] at hy
   have ey : V.int k.size = y := Option.some.inj hy
   subst ey
   have s'' := s1.trans s'
   exact ⟨_, rfl, a, _, dx, _, _, rfl, s'' _ _ W.at_, T.cl_Document, T.n_Document_spans, rfl, _, rfl, sl, _, _, _, rfl, rfl, SqL.of (s'' _ _ W.sp), atI_nat (intsV_get (meas_get (sizes_get hz) hpz)), hR _ (.refl _)⟩
  have s12 := s1.trans s2
  have eS : (1 : Int) + ((kids e).map fun k => (k.size : Int)).sum = (e.size : Int) := by
   rw [sum_kids, size_eq e]
   omega
  refine ⟨D1, (kids e).map fun k => (k.size : Int), rfl, SqL.of (by rw [hd1, List.map_map]; rfl), _, _, rfl, rfl, ?_⟩
  refine ⟨_, rfl, a, _, dx, _, _, rfl, s12 _ _ W.at_, T.cl_Document, T.n_Document_spans, rfl, _, rfl, sl, _, _, p, rfl, rfl, s12 _ _ W.sp, ?_, ?_⟩
  ·rw [intsV_length, meas_length (by omega)]
   exact ixN_nat (by omega)
  dsimp only [gName, tSeq, tAsg, tOp, tC, tMaxD, tCons]
  rw [eS, intsV_set, meas_set (sizes_get he)]
  obtain ⟨H3, eH3⟩ : ∃ H3, H3 = upd H2 sl (.lst (intsV (meas 1 p (sizes d)))) := ⟨_, rfl⟩
  rw [← eH3]
  have b1 : Same H0 H1 := W.base.trans s1
  have b3 : Same H0 H3 := by
   rw [eH3]
   exact (W.base.trans s12).wr W.n0
  have at3 : H3 a = some (.ins A.C_Document dx (docF pl sl dl fl)) := by
   rw [eH3, upd_ne (ne_of W.at_ W.sp (by intro z; cases z))]
   exact s12 _ _ W.at_
  have sp3 : H3 sl = some (.lst (intsV (meas 1 p (sizes d)))) := by rw [eH3, upd_same]
  have dp3 : H3 dl = some (.lst (intsV (meas 1 (p + 1) (depths d)))) := by
   rw [eH3, upd_ne W.d01.symm]
   exact s12 _ _ W.dp
  have fo3 : H3 fl = some (.lst (meas (.bl false) (p + 1) (forceds d))) := by
   rw [eH3, upd_ne W.d02.symm]
   exact s12 _ _ W.fo
  have l3 : H3 l = some (.lst (intsV ((innerPlaces p e).map fun (z : Nat) => (z : Int)))) := by
   rw [eH3, upd_ne (ne_of_none W.sp hl).symm]
   exact s2 _ _ hl1
  refine lcv ((kids e).map fun k => V.int k.depth) (by rfl) (SqL.of l3) (lk _) (by rw [List.length_map]; exact klen) (fun i x y H' hx hy s' R hR => ?_) fun D2 H4 hD2 s4 hd2 => ?_
  ·obtain ⟨z, k, rfl, hk, hz, hpz⟩ := kid_at he hx
   rw [List.getElem?_map, hk] at hy
   have ey : V.int k.depth = y := Option.some.inj hy
   subst ey
   exact ⟨_, rfl, a, _, dx, _, _, rfl, s' _ _ at3, T.cl_Document, T.n_Document_depths, rfl, _, rfl, dl, _, _, _, rfl, rfl, SqL.of (s' _ _ dp3), atI_nat (intsV_get (meas_get (depths_get hz) hpz)), hR _ (.refl _)⟩
  have eD : (1 : Int) + maxInts ((kids e).map fun k => (k.depth : Int)) 0 = (e.depth : Int) := by
   rw [max_kids, depth_eq e]
   omega
  refine ⟨D2, (kids e).map fun k => (k.depth : Int), 0, rfl, rfl, SqL.of (by rw [hd2, List.map_map]; rfl), _, _, rfl, rfl, ?_⟩
  refine ⟨_, rfl, a, _, dx, _, _, rfl, s4 _ _ at3, T.cl_Document, T.n_Document_depths, rfl, _, rfl, dl, _, _, p, rfl, rfl, s4 _ _ dp3, ?_, ?_⟩
  ·rw [intsV_length, meas_length (by omega)]
   exact ixN_nat (by omega)
  dsimp only [gName, tSeq, tAsg, tOp, tC, tCB, tCons]
  rw [eD, intsV_set, meas_set (depths_get he)]
  obtain ⟨H5, eH5⟩ : ∃ H5, H5 = upd H4 dl (.lst (intsV (meas 1 p (depths d)))) := ⟨_, rfl⟩
  rw [← eH5]
  have b5 : Same H0 H5 := by
   rw [eH5]
   exact (b3.trans s4).wr W.n1
  have at5 : H5 a = some (.ins A.C_Document dx (docF pl sl dl fl)) := by
   rw [eH5, upd_ne (ne_of at3 dp3 (by intro z; cases z))]
   exact s4 _ _ at3
  have sp5 : H5 sl = some (.lst (intsV (meas 1 p (sizes d)))) := by
   rw [eH5, upd_ne W.d01]
   exact s4 _ _ sp3
  have dp5 : H5 dl = some (.lst (intsV (meas 1 p (depths d)))) := by rw [eH5, upd_same]
  have fo5 : H5 fl = some (.lst (meas (.bl false) (p + 1) (forceds d))) := by
   rw [eH5, upd_ne W.d12.symm]
   exact s4 _ _ fo3
  have l5 : H5 l = some (.lst (intsV ((innerPlaces p e).map fun (z : Nat) => (z : Int)))) := by
   rw [eH5, upd_ne (ne_of_none W.dp hl).symm]
   exact s4 _ _ l3
  refine lcv ((kids e).map fun k => V.bl k.forced) (by rfl) (SqL.of l5) (lk _) (by rw [List.length_map]; exact klen) (fun i x y H' hx hy s' R hR => ?_) fun D3 H6 hD3 s6 hd3 => ?_
  ·obtain ⟨z, k, rfl, hk, hz, hpz⟩ := kid_at he hx
   rw [List.getElem?_map, hk] at hy
   have ey : V.bl k.forced = y := Option.some.inj hy
   subst ey
   exact ⟨_, rfl, a, _, dx, _, _, rfl, s' _ _ at5, T.cl_Document, T.n_Document_forced, rfl, _, rfl, fl, _, _, _, rfl, rfl, SqL.of (s' _ _ fo5), atI_nat (meas_get (forceds_get hz) hpz), hR _ (.refl _)⟩
  refine ⟨D3, (kids e).map fun k => k.forced, rfl, SqL.of (by rw [hd3, List.map_map]; rfl), ?_⟩
  have b6 : Same H0 H6 := b5.trans s6
  obtain ⟨as, pa, hpl, hpa, dxp, tp, hpp, _⟩ := W.parts.get (raw_get he)
  have eF : ((kids e).map fun k => k.forced).any id = (kids e).any Doc.forced := by
   rw [List.any_map]
   rfl
  have hf := forced_eq e
  have fin : ∀ (H7 : Hp) (b : Bool), Same H6 H7 → b = e.forced → DocW A H0 (upd H7 fl (.lst ((meas (.bl false) (p + 1) (forceds d)).set p (.bl b)))) a dx pl sl dl fl d p := by
   intro H7 b s7 eb
   rw [eb, meas_set (forceds_get he)]
   refine ⟨?_, ((b6.trans s7)).wr W.n2, W.parts, ?_, ?_, upd_same, W.n0, W.n1, W.n2, W.n3, W.d01, W.d02, W.d12⟩
   ·rw [upd_ne (ne_of at5 fo5 (by intro z; cases z))]
    exact s7 _ _ (s6 _ _ at5)
   ·rw [upd_ne W.d02]
    exact s7 _ _ (s6 _ _ sp5)
   ·rw [upd_ne W.d12]
    exact s7 _ _ (s6 _ _ dp5)
  refine ⟨_, rfl, _, rfl, ?_⟩
  rw [eF]
  refine ite2 (fun hb => ?_) (fun hb => ?_)
  ·refine ⟨_, rfl, a, _, dx, _, _, rfl, s6 _ _ at5, T.cl_Document, T.n_Document_forced, rfl, _, rfl, fl, _, _, p, rfl, rfl, s6 _ _ fo5, ?_, ?_⟩
   ·rw [meas_length (by omega)]
    exact ixN_nat (by omega)
   ·exact q _ (fin H6 true (.refl _) (by rw [hf, hb]; rfl))
  ·refine ⟨_, rfl, a, _, dx, _, _, rfl, s6 _ _ at5, T.cl_Document, T.n_Document_parts, rfl, _, rfl, pl, _, _, _, rfl, rfl, SqL.of (b6 _ _ hpl), atI_nat hpa, pa, _, dxp, _, _, rfl, b6 _ _ hpp, T.cl_Part, T.n_Part_kind, rfl, ?_⟩
   refine ⟨(by show 2 ≤ sizeLine; decide), fun c hc => ?_⟩
   have s7 := same_upd (o := .tup [.int 4, .int 5]) hc
   refine ⟨c, [.int 4, .int 5], rfl, .inr (SqT.of upd_same), rfl, rfl, ?_⟩
   refine ⟨_, rfl, a, _, dx, _, _, rfl, s7 _ _ (s6 _ _ at5), T.cl_Document, T.n_Document_forced, rfl, _, rfl, fl, _, _, p, rfl, rfl, s7 _ _ (s6 _ _ fo5), ?_, ?_⟩
   ·rw [meas_length (by omega)]
    exact ixN_nat (by omega)
   ·refine q _ (fin _ _ s7 ?_)
    rw [if_neg Bool.false_ne_true, hf, Bool.eq_false_iff.mpr hb, Bool.eq_iff_iff]
    have e1 := in_ints (k := (raw e).kind) (l := [4, 5])
    refine Iff.trans e1 ?_
    simp
end
end WL
set_option Elab.async false
set_option linter.all false
set_option maxRecDepth 100000
set_option maxHeartbeats 2000000
namespace WL
open PySem PySem.Spec PyProof.Rows L2
open Vafmtb (Doc)
def DocAt (A : Ad) (H : Hp) (a : Addr) (d : Doc) : Prop := ∃ dx pl sl dl fl, H a = some (.ins A.C_Document dx (docF pl sl dl fl)) ∧ PartsAt A H pl ((subs d).map raw) ∧ H sl = some (.lst (intsV (sizes d))) ∧ H dl = some (.lst (intsV (depths d))) ∧ H fl = some (.lst (forceds d))
theorem DocAt.mono {A : Ad} {H H' : Hp} {a : Addr} {d : Doc} (s : Same H H') (h : DocAt A H a d) : DocAt A H' a d := by
 obtain ⟨dx, pl, sl, dl, fl, h1, h2, h3, h4, h5⟩ := h
 exact ⟨dx, pl, sl, dl, fl, s _ _ h1, h2.mono s, s _ _ h3, s _ _ h4, s _ _ h5⟩
def hide (H : Hp) (a : Addr) : Hp := fun b => if b = a then none else H b
theorem hide_at (H : Hp) (a : Addr) : hide H a a = none := if_pos rfl
theorem hide_ne {H : Hp} {a b : Addr} (h : b ≠ a) : hide H a b = H b := if_neg h
theorem hide_some {H : Hp} {a b : Addr} {o u : HO} (h : H b = some o) (ha : H a = some u) (d : o ≠ u) : hide H a b = some o := by
 rw [hide_ne (ne_of h ha d)]
 exact h
theorem of_hide {H : Hp} {a b : Addr} {o : HO} (h : hide H a b = some o) : H b = some o ∧ b ≠ a := by
 by_cases e : b = a
 ·subst e
  rw [hide_at] at h
  cases h
 ·rw [hide_ne e] at h
  exact ⟨h, e⟩
theorem hide_same (H : Hp) (a : Addr) : Same (hide H a) H := fun _ _ h => (of_hide h).1
theorem PartsAt.hide {A : Ad} {H : Hp} {a C dx l : Addr} {ps : List RawP} (h : PartsAt A H l ps) (ha : H a = some (.ins C dx [])) : PartsAt A (hide H a) l ps := by
 obtain ⟨as, h1, h2⟩ := h
 refine ⟨as, hide_some h1 ha (by intro z; cases z), Paired.mapP h2 fun b p q => ?_⟩
 obtain ⟨dy, t, e1, e2⟩ := q
 exact ⟨dy, t, hide_some e1 ha (by intro z; cases z), hide_some e2 ha (by intro z; cases z)⟩
def sp_Document___init__ (A : Ad) : Sp := fun vs H Q _ => ∃ (a dx pl : Addr) (d : Doc), vs = [.ref a, .ref pl] ∧ H a = some (.ins A.C_Document dx []) ∧ PartsAt A H pl ((subs d).map raw) ∧ d.size ≤ 600 ∧
 ∀ H' sl dl fl, H' a = some (.ins A.C_Document dx (docF pl sl dl fl)) → H' sl = some (.lst (intsV (sizes d))) → H' dl = some (.lst (intsV (depths d))) → H' fl = some (.lst (forceds d)) → H sl = none → H dl = none → H fl = none → (∀ b o, H b = some o → b ≠ a → H' b = some o) → Q .non H'
section
variable {P : Program} {w : World} {K : PySem.W.Frag} {mg : Str → Option Value} {base : Heap} {A : Ad}
theorem rep_one (x : V) : ∀ n : Nat, (List.replicate n [x]).flatten = List.replicate n x
 | 0 => rfl
 | n + 1 => by
  rw [List.replicate_succ, List.flatten_cons, rep_one x n]
  rfl
theorem rep_step {v : V} {f : Str} {D : Ends} {σ : L2.St} {H1 : Hp} {a C dx pl : Addr} {fs : List (Str × V)} {xs : List V} (h0 : σ[0]? = some (some (.ref a))) (h1 : σ[1]? = some (some (.ref pl))) (hp : H1 pl = some (.lst xs)) (ha : H1 a = some (.ins C dx fs)) (hc : Cls K C) (hn : NoAttr K C f)
  (hf : fs.length < 1000) (hx : xs.length ≤ 1000) (k : ∀ (H2 : Hp) (sl : Addr), H1 sl = none → (∀ b o, H1 b = some o → b ≠ a → H2 b = some o) → H2 a = some (.ins C dx (putF f (.ref sl) fs)) → H2 sl = some (.lst (List.replicate xs.length v)) → D.nx σ H2) :
  sFld K (tVar 0) (tOp rRep (tLst (tCons (tC v) tNil)) (tCB (rLen K) (tCons (tVar 1) tNil))) f D σ H1 := by
 refine ⟨(by show 1 ≤ sizeLine; decide), fun l1 hl1 => ?_⟩
 have u1 := same_upd (o := .lst [v]) hl1
 refine ⟨_, h1, pl, xs, rfl, .inl (SqL.of (u1 _ _ hp)), l1, _, _, rfl, rfl, upd_same, by omega, by omega, ?_, fun sl hsl => ?_⟩
 ·rw [Int.toNat_natCast]
  exact line_le (by simp; omega)
 have v1 := u1.trans (same_upd (o := .lst (List.replicate ((xs.length : Int)).toNat [v]).flatten) hsl)
 refine ⟨_, h0, a, C, dx, fs, rfl, v1 _ _ ha, hc, hn, hf, ?_⟩
 refine k _ sl (u1.free hsl) (fun b o e hb => ?_) upd_same ?_
 ·rw [upd_ne hb]
  exact v1 _ _ e
 ·rw [upd_ne (ne_of_none ha (u1.free hsl)).symm, upd_same, Int.toNat_natCast, rep_one]
theorem ok_Document___init__ (T : Tx A K mg) : FnOk P w K mg base CX0 4 A.f_Document___init__ A.fd_Document___init__ ["self", "parts"] (sp_Document___init__ A) := by
 have nd := sc_Document___init__.nd
 refine T.F_Document___init__.ok sc_Document___init__ (fun vs H Q E h => ?_) (fun cdv Ar outer s H vs Q E hr h => ?_)
 ·obtain ⟨a, dx, pl, d, rfl, _⟩ := h
  rfl
 ·obtain ⟨a, dx, pl, d, rfl, ha, hp, hsz, q⟩ := h
  obtain ⟨as, hpl, hpp⟩ := id hp
  have las : (as.map V.ref).length = d.size := by
   rw [List.length_map, Paired.length hpp, List.length_map, subs_length]
  have hp0 := hp.hide ha
  obtain ⟨H0, eH0⟩ : ∃ H0, H0 = hide H a := ⟨_, rfl⟩
  rw [← eH0] at hp0
  have n3 : H0 a = none := by rw [eH0, hide_at]
  have s0 : Same H0 H := by
   rw [eH0]
   exact hide_same H a
  have hpl0 : H0 pl = some (.lst (as.map V.ref)) := by
   rw [eH0]
   exact hide_some hpl ha (by intro z; cases z)
  refine ⟨_, (pss_cons (ps_fld (pv 0) (pv 1) rfl) (pss_cons (ps_fld (pv 0) (pe_op op_rep (pe_lst (pa_cons pe_int pa_nil)) (pe_callB call_lenR rfl T.b_len PySem.boot_len (pa_cons (pv 1) pa_nil))) rfl) (pss_cons (ps_fld (pv 0) (pe_op op_rep (pe_lst (pa_cons pe_int pa_nil)) (pe_callB call_lenR rfl T.b_len PySem.boot_len (pa_cons (pv 1) pa_nil))) rfl) (pss_cons (ps_fld (pv 0) (pe_op op_rep (pe_lst (pa_cons pe_bl pa_nil)) (pe_callB call_lenR rfl T.b_len PySem.boot_len (pa_cons (pv 1) pa_nil))) rfl) (pss_one (ps_for PassesOwn.never rfl (pi_range3 rfl T.b_range (pa_cons (pe_op op_sub (pe_callB call_lenR rfl T.b_len PySem.boot_len (pa_cons (pv 1) pa_nil)) pe_int) (pa_cons (pe_un un_neg pe_int) (pa_cons (pe_un un_neg pe_int) pa_nil)))) (pg_name (i := 2) nd rfl (by first | exact Or.inl rfl | exact Or.inr rfl)) (pss_one (ps_expr (pe_meth (pv 0) T.cl_Document T.m_Document_measure (ok_Document_measure T) (hr.mono (by decide)) T.b_Document_measure .nil pass0 (pa_cons (pv 2) pa_nil)))))))))), ?_⟩
  refine ⟨_, rfl, _, rfl, a, _, dx, _, rfl, ha, T.cl_Document, T.n_Document_parts, (by show 0 < 1000; decide), ?_⟩
  have s1 : Same H0 (upd H a (.ins A.C_Document dx (putF "parts" (.ref pl) []))) := s0.wr n3
  have a1 : (upd H a (.ins A.C_Document dx (putF "parts" (.ref pl) []))) a = some (.ins A.C_Document dx (putF "parts" (.ref pl) [])) := upd_same
  generalize upd H a (.ins A.C_Document dx (putF "parts" (.ref pl) [])) = H1 at s1 a1 ⊢
  have x1000 : (as.map V.ref).length ≤ 1000 := by omega
  refine rep_step (v := .int 1) (a := a) (pl := pl) (xs := as.map V.ref) rfl rfl (s1 _ _ hpl0) a1 T.cl_Document T.n_Document_spans (by show 1 < 1000; decide) x1000 fun H2 sl nsl k2 a2 sp2 => ?_
  have s2 : Same H0 H2 := fun b o e => k2 b o (s1 _ _ e) (ne_of_none e n3)
  refine rep_step (v := .int 1) (a := a) (pl := pl) (xs := as.map V.ref) rfl rfl (s2 _ _ hpl0) a2 T.cl_Document T.n_Document_depths (by show 2 < 1000; decide) x1000 fun H3 dl ndl k3 a3 dp3 => ?_
  have s3 : Same H0 H3 := fun b o e => k3 b o (s2 _ _ e) (ne_of_none e n3)
  have sa : sl ≠ a := (ne_of_none a1 nsl).symm
  have sp3 := k3 _ _ sp2 sa
  refine rep_step (v := .bl false) (a := a) (pl := pl) (xs := as.map V.ref) rfl rfl (s3 _ _ hpl0) a3 T.cl_Document T.n_Document_forced (by show 3 < 1000; decide) x1000 fun H4 fl nfl k4 a4 fo4 => ?_
  have s4 : Same H0 H4 := fun b o e => k4 b o (s3 _ _ e) (ne_of_none e n3)
  have da : dl ≠ a := (ne_of_none a2 ndl).symm
  have sp4 := k4 _ _ sp3 sa
  have dp4 := k4 _ _ dp3 da
  have ls : (sizes d).length = d.size := by rw [sizes, List.length_map, subs_length]
  have ld : (depths d).length = d.size := by rw [depths, List.length_map, subs_length]
  have lf : (forceds d).length = d.size := by rw [forceds, List.length_map, subs_length]
  have W : DocW A H0 H4 a dx pl sl dl fl d d.size := by
   refine ⟨a4, s4, hp0, ?_, ?_, ?_, s1.free nsl, s2.free ndl, s3.free nfl, n3, ne_of_none sp2 ndl, ne_of_none sp3 nfl, ne_of_none dp3 nfl⟩
   ·rw [sp4, las, ← ls, meas_all, intsV, List.map_replicate]
   ·rw [dp4, las, ← ld, meas_all, intsV, List.map_replicate]
   ·rw [fo4, las, ← lf, meas_all]
  clear sp4 dp4 fo4 sp3 dp3 sp2 k2 k3 k4
  refine ⟨_, rfl, pl, _, rfl, .inl (SqL.of (s4 _ _ hpl0)), _, _, rfl, rfl, _, rfl, _, rfl, ((as.map V.ref).length : Int) - 1, -1, -1, (((as.map V.ref).length : Int) - 1 - -1).toNat, rfl, RgC.neg (by omega) (by omega) (by omega) (by omega), ?_⟩
  have en : (((as.map V.ref).length : Int) - 1 - -1).toNat = d.size := by
   rw [las]
   omega
  rw [en, las]
  refine for_rangeC (fun i σ H' => ∃ v : Option V, σ = [some (.ref a), some (.ref pl), v] ∧ i ≤ d.size ∧ DocW A H0 H' a dx pl sl dl fl d (d.size - i)) ⟨none, rfl, Nat.zero_le _, W⟩ ?_ ?_
  ·rintro i σ H' hi ⟨v, rfl, _, W'⟩
   have hlt : d.size - 1 - i < (subs d).length := by
    rw [subs_length]
    omega
   have ez : ((d.size : Int) - 1 + (i : Int) * -1) = ((d.size - 1 - i : Nat) : Int) := by omega
   rw [ez]
   have W'' : DocW A H0 H' a dx pl sl dl fl d (d.size - 1 - i + 1) := by
    rw [show d.size - 1 - i + 1 = d.size - i by omega]
    exact W'
   refine ⟨_, rfl, a, dx, _, rfl, W'.at_, rfl, _, rfl, H0, a, dx, pl, sl, dl, fl, d, _, d.size - 1 - i, rfl, W'', List.getElem?_eq_getElem hlt, hsz, fun H5 W5 => ?_⟩
   refine ⟨_, rfl, by omega, ?_⟩
   rw [show d.size - (i + 1) = d.size - 1 - i by omega]
   exact W5
  ·rintro σ H' ⟨v, rfl, _, W'⟩
   rw [Nat.sub_self] at W'
   have nn : ∀ z, H0 z = none → z ≠ a → H z = none := fun z e1 e2 => by
    rw [eH0, hide_ne e2] at e1
    exact e1
   refine q H' sl dl fl W'.at_ W'.sp W'.dp W'.fo (nn _ W'.n0 (ne_of W'.at_ W'.sp (by intro z; cases z)).symm) (nn _ W'.n1 (ne_of W'.at_ W'.dp (by intro z; cases z)).symm) (nn _ W'.n2 (ne_of W'.at_ W'.fo (by intro z; cases z)).symm) fun b o e hb => W'.base b o ?_
   rw [eH0, hide_ne hb]
   exact e
end
end WL
set_option Elab.async false
set_option linter.all false
set_option maxRecDepth 100000
set_option maxHeartbeats 2000000
namespace WL
open PySem PySem.Spec PyProof.Rows L2
open Vafmtb (Doc)
def sp_Document_count_bytes (A : Ad) : Sp := fun vs H Q _ => ∃ (a : Addr) (d : Doc), vs = [.ref a] ∧ DocAt A H a d ∧ d.size ≤ 600 ∧ ∀ H', Same H H' → Q (.int d.bytes) H'
def sp_Document_count_groups (A : Ad) : Sp := fun vs H Q _ => ∃ (a : Addr) (d : Doc), vs = [.ref a] ∧ DocAt A H a d ∧ d.size ≤ 600 ∧ ∀ H', Same H H' → Q (.int d.groups.length) H'
def sp_Document_row_numbers (A : Ad) : Sp := fun vs H Q _ => ∃ (a : Addr) (d : Doc), vs = [.ref a] ∧ DocAt A H a d ∧ Good d ∧ NewInts H (natsI d.told) Q
section
variable {P : Program} {w : World} {K : PySem.W.Frag} {mg : Str → Option Value} {base : Heap} {A : Ad}
theorem part_of {H : Hp} {as : List Addr} {ps : List RawP} (h : Paired (fun a p => PartAt A H a p) as ps) {i : Nat} {x : V} (e : (as.map V.ref)[i]? = some x) : ∃ a p, x = .ref a ∧ as[i]? = some a ∧ ps[i]? = some p ∧ PartAt A H a p := by
 rw [List.getElem?_map] at e
 cases e1 : as[i]? with
 | none =>
  rw [e1] at e
  cases e
 | some a =>
  rw [e1] at e
  obtain ⟨p, h1, h2⟩ := paired_get h e1
  exact ⟨a, p, (Option.some.inj e).symm, rfl, h1, h2⟩
theorem ok_Document_count_bytes (T : Tx A K mg) : FnOk P w K mg base CX0 1 A.f_Document_count_bytes A.fd_Document_count_bytes ["self"] (sp_Document_count_bytes A) := by
 have nd := sc_Document_count_bytes.nd
 refine T.F_Document_count_bytes.ok sc_Document_count_bytes (fun vs H Q E h => ?_) (fun cdv Ar outer s H vs Q E hr h => ?_)
 ·obtain ⟨a, d, rfl, _⟩ := h
  rfl
 ·obtain ⟨a, d, rfl, ⟨dx, pl, sl, dl, fl, ha, ⟨as, hpl, hpp⟩, _⟩, hsz, q⟩ := h
  have las : as.length = d.size := by rw [Paired.length hpp, List.length_map, subs_length]
  refine ⟨_, (pss_one (ps_ret (pe_callB (call_sum rfl) rfl T.b_sum boot_sum (pa_cons (pe_lc (te := (tCB (rLen K) (tCons (tFld K (tVar 1) "text") tNil))) (own := [("part", 1)]) rfl nd (pi_list (pe_fld (pv 0) rfl)) (show BlkOk ["self", "part"] (defScope s_Document_count_bytes) _ _ from ⟨rfl, by decide +kernel, by decide +kernel, by decide +kernel, by decide +kernel⟩) (fun _ _ _ _ _ => pg_name (i := 1) nd rfl (Or.inl rfl)) (fun _ _ _ _ _ => pts_nil) (fun _ _ _ _ _ => (pe_callB call_lenR rfl T.b_len PySem.boot_len (pa_cons (pe_fld (pv 1) rfl) pa_nil)))) pa_nil)))), ?_⟩
  dsimp only [tRet, tCB, tCons]
  refine lcf ((subs d).map fun e => V.int ((raw e).text.length : Int)) (by rfl) ha T.cl_Document T.n_Document_parts rfl (SqL.of hpl) (by rw [List.length_map, List.length_map, subs_length, las]) (line_le (by rw [List.length_map, subs_length]; omega)) (fun i x y H' hx hy s R hR => ?_) fun D H' hD s hd => ?_
  ·obtain ⟨b, p, rfl, hb, hp, dy, t, e1, e2⟩ := part_of hpp hx
   rw [List.getElem?_map] at hy hp
   cases e3 : (subs d)[i]? with
   | none =>
    rw [e3] at hp
    cases hp
   | some e =>
    rw [e3] at hp hy
    have ep : raw e = p := Option.some.inj hp
    have ey : V.int ((raw e).text.length : Int) = y := Option.some.inj hy
    subst ep ey
    refine ⟨_, rfl, b, _, dy, _, _, rfl, s _ _ e1, T.cl_Part, T.n_Part_text, rfl, t, _, rfl, .inl (SqL.of (s _ _ e2)), ?_⟩
    rw [intsV_length]
    exact hR _ (.refl _)
  ·refine ⟨D, (subs d).map fun e => ((raw e).text.length : Int), rfl, SqL.of (by rw [hd, List.map_map]; rfl), ?_⟩
   rw [bytesI, bytes_eq]
   exact q _ s
def grp (H : Hp) : V → Bool
 | .ref b => (match H b with
  | some (.ins _ _ fs) => decide (fs.lookup ("kind" : Str) = some (V.int 9))
  | _ => false)
 | _ => false
theorem grp_at {H : Hp} {a dx t : Addr} {p : RawP} (h : H a = some (.ins A.C_Part dx (partF p t))) : grp H (.ref a) = decide (V.int p.kind = V.int 9) := by
 unfold grp
 simp only [h]
 have : (partF p t).lookup ("kind" : Str) = some (.int p.kind) := rfl
 rw [this]
 simp
theorem filter_refs : ∀ {H : Hp} {as : List Addr} {l : List Doc}, Paired (fun a p => PartAt A H a p) as (l.map raw) → ∀ pr : V → Bool, (∀ a e, PartAt A H a (raw e) → pr (.ref a) = isGroup e) → ((as.map V.ref).filter pr).length = (l.filter isGroup).length
 | _, [], [], _, _, _ => rfl
 | _, [], _ :: _, h, _, _ => by cases h
 | _, _ :: _, [], h, _, _ => by cases h
 | _, a :: as, e :: l, h, pr, hp => by
  cases h with
  | cons h1 h2 =>
   have ih := filter_refs h2 pr hp
   have h0 := hp a e h1
   rw [List.map_cons, List.filter_cons, List.filter_cons, h0]
   cases isGroup e with
   | true =>
    rw [if_pos rfl, if_pos rfl, List.length_cons, List.length_cons, ih]
   | false =>
    rw [if_neg Bool.false_ne_true, if_neg Bool.false_ne_true, ih]
theorem ok_Document_count_groups (T : Tx A K mg) : FnOk P w K mg base CX0 1 A.f_Document_count_groups A.fd_Document_count_groups ["self"] (sp_Document_count_groups A) := by
 have nd := sc_Document_count_groups.nd
 refine T.F_Document_count_groups.ok sc_Document_count_groups (fun vs H Q E h => ?_) (fun cdv Ar outer s H vs Q E hr h => ?_)
 ·obtain ⟨a, d, rfl, _⟩ := h
  rfl
 ·obtain ⟨a, d, rfl, ⟨dx, pl, sl, dl, fl, ha, ⟨as, hpl, hpp⟩, _⟩, hsz, q⟩ := h
  have las : as.length = d.size := by rw [Paired.length hpp, List.length_map, subs_length]
  refine ⟨_, (pss_one (ps_ret (pe_callB call_lenR rfl T.b_len PySem.boot_len (pa_cons (pe_lc (tt := (tTest (tOp rEq (tFld K (tVar 1) "kind") (tC (.int 9))))) (own := [("part", 1)]) rfl nd (pi_list (pe_fld (pv 0) rfl)) (show BlkOk ["self", "part"] (defScope s_Document_count_groups) _ _ from ⟨rfl, by decide +kernel, by decide +kernel, by decide +kernel, by decide +kernel⟩) (fun _ _ _ _ _ => pg_name (i := 1) nd rfl (Or.inl rfl)) (fun _ _ _ _ _ => (pts_one (pt_cmpR op_eq (pe_fld (pv 1) rfl) (pe_gint rfl T.c_GROUP) (nomark _)))) (fun _ _ _ _ _ => (pv 1))) pa_nil)))), ?_⟩
  dsimp only [tRet, tCB, tCons]
  refine lcf_filter (grp H) (by rfl) ha T.cl_Document T.n_Document_parts rfl (SqL.of hpl) (by show 1 < 2; decide) (line_le (by rw [List.length_map]; omega)) (fun i x H' hx s R hR => ?_) fun D H' hD s hd => ?_
  ·obtain ⟨b, p, rfl, hb, hp, dy, t, e1, e2⟩ := part_of hpp hx
   refine ⟨_, rfl, b, _, dy, _, _, rfl, s _ _ e1, T.cl_Part, T.n_Part_kind, rfl, rfl, _, rfl, ?_⟩
   rw [grp_at e1] at hR
   exact hR
  ·refine ⟨D, _, rfl, .inl (SqL.of hd), ?_⟩
   rw [filter_refs hpp (grp H) fun b e hm => ?_, ← groups_subs]
   ·exact q _ s
   ·obtain ⟨dy, t, e1, _⟩ := hm
    rw [grp_at e1]
    unfold isGroup
    simp
theorem ok_Document_row_numbers (T : Tx A K mg) : FnOk P w K mg base CX0 2 A.f_Document_row_numbers A.fd_Document_row_numbers ["self"] (sp_Document_row_numbers A) := by
 have nd := sc_Document_row_numbers.nd
 refine T.F_Document_row_numbers.ok sc_Document_row_numbers (fun vs H Q E h => ?_) (fun cdv Ar outer s H vs Q E hr h => ?_)
 ·obtain ⟨a, d, rfl, _⟩ := h
  rfl
 ·obtain ⟨a, d, rfl, ⟨dx, pl, sl, dl, fl, ha, ⟨as, hpl, hpp⟩, _⟩, hg, q⟩ := h
  have las : as.length = d.size := by rw [Paired.length hpp, List.length_map, subs_length]
  have hsz := hg.size
  have lim : ∀ i, i ≤ d.size → (((subs d).take i).flatMap fun e => numbersOf (raw e)).length ≤ i * 5000 := by
   intro i
   induction i with
   | zero => intro _; simp
   | succ i ih =>
    intro hi
    have hlt : i < (subs d).length := by
     rw [subs_length]
     omega
    rw [List.take_succ, List.getElem?_eq_getElem hlt, Option.toList_some, List.flatMap_append, List.length_append]
    have h1 := ih (by omega)
    have h2 : ([(subs d)[i]'hlt].flatMap fun e => numbersOf (raw e)).length ≤ 5000 := by
     have h3 := text_le (d := d) (List.getElem_mem hlt)
     have h4 := hg.bytes
     rw [List.flatMap_cons, List.flatMap_nil, List.append_nil]
     unfold numbersOf
     split
     ·simp only [List.length_cons]
      omega
     ·simp
    omega
  refine ⟨_, (pss_cons (ps_set (i := 1) nd rfl (by first | exact Or.inl rfl | exact Or.inr rfl) (pe_lst pa_nil)) (pss_cons (ps_for PassesOwn.never rfl (pi_list (pe_fld (pv 0) rfl)) (pg_name (i := 2) nd rfl (by first | exact Or.inl rfl | exact Or.inr rfl)) (pss_one (ps_expr (pe_bm PySem.F.plainAttrs_list PySem.F.slot_list_extend PySem.F.type_list_extend mt_extend (pv 1) (pa_cons (pe_call (ok_numbers_of T) (hr.mono (by decide)) rfl T.mg_numbers_of T.kp_numbers_of T.b_numbers_of .nil pass0 (pa_cons (pv 2) pa_nil)) pa_nil))))) (pss_one (ps_ret (pv 1))))), ?_⟩
  refine ⟨Nat.zero_le _, fun l hl => ?_⟩
  have s0 := same_upd (o := .lst []) hl
  refine ⟨_, rfl, a, _, dx, _, _, rfl, s0 _ _ ha, T.cl_Document, T.n_Document_parts, rfl, pl, rfl, ⟨_, SqL.of (s0 _ _ hpl)⟩, ?_⟩
  refine for_list (K := K) (a := pl) (xs := as.map V.ref) (fun i σ H' => ∃ v : Option V, σ = [some (.ref a), some (.ref l), v] ∧ Same H H' ∧ H' l = some (.lst (intsV (((subs d).take i).flatMap fun e => numbersOf (raw e))))) ⟨none, rfl, s0, upd_same⟩ (fun i σ H' _ ⟨_, _, s, _⟩ => SqL.of (s _ _ hpl)) ?_ ?_
  ·rintro i x σ H' hx ⟨v, rfl, s, hl'⟩
   obtain ⟨b, p, rfl, hb, hp, hpa⟩ := part_of hpp hx
   have hi : i < d.size := by
    have := (List.getElem?_eq_some_iff.mp hb).1
    omega
   have hlt : i < (subs d).length := by
    rw [subs_length]
    exact hi
   have e3 : (subs d)[i]? = some ((subs d)[i]'hlt) := List.getElem?_eq_getElem hlt
   rw [List.getElem?_map, e3] at hp
   have ep : raw ((subs d)[i]'hlt) = p := Option.some.inj hp
   have tl := text_le (d := d) (List.getElem_mem hlt)
   have tb := hg.bytes
   refine ⟨_, rfl, .inl ⟨rfl, _, SqL.of hl'⟩, _, rfl, b, p, rfl, hpa.mono s, by rw [← ep]; omega, fun H2 r hr' s2 hr2 => ?_⟩
   refine ⟨l, r, _, _, rfl, rfl, s2 _ _ hl', hr2, ?_, ?_⟩
   ·have h1 := lim (i + 1) hi
    rw [List.take_succ, e3, Option.toList_some, List.flatMap_append, List.flatMap_cons, List.flatMap_nil, List.append_nil, ep, List.length_append] at h1
    rw [intsV_length, intsV_length]
    exact line_le (by omega)
   ·refine ⟨_, rfl, (s.trans s2).wr hl, ?_⟩
    rw [upd_same, List.take_succ, e3, Option.toList_some, List.flatMap_append, List.flatMap_cons, List.flatMap_nil, List.append_nil, ep, intsV_append]
  ·rintro σ H' ⟨v, rfl, s, hl'⟩
   rw [List.length_map, las, ← subs_length, List.take_length] at hl'
   refine ⟨_, rfl, q _ l hl s ?_⟩
   rw [hl', told_subs]
end
end WL
set_option Elab.async false
set_option linter.all false
set_option maxRecDepth 100000
set_option maxHeartbeats 2000000
namespace WL
open PySem PySem.Spec PyProof.Rows L2
open Vafmtb (Doc)
def DocsAt (A : Ad) (H : Hp) (l : Addr) (ds : List Doc) : Prop := ∃ as : List Addr, H l = some (.lst (as.map V.ref)) ∧ Paired (fun a d => DocAt A H a d) as ds
theorem DocsAt.get {A : Ad} {H : Hp} {l : Addr} {ds : List Doc} (h : DocsAt A H l ds) {i : Nat} {d : Doc} (e : ds[i]? = some d) : ∃ (as : List Addr) (a : Addr), H l = some (.lst (as.map V.ref)) ∧ (as.map V.ref)[i]? = some (V.ref a) ∧ DocAt A H a d := by
 obtain ⟨as, h1, h2⟩ := h
 obtain ⟨a, ha, hp⟩ := paired_back h2 e
 exact ⟨as, a, h1, by rw [List.getElem?_map, ha]; rfl, hp⟩
def NamesOk (n : Nat) (ps : List RawP) : Prop := ∀ p ∈ ps, p.kind = 10 → 0 ≤ p.number ∧ p.number < n
theorem spell1_named {ds : List Doc} {p : RawP} (hk : p.kind = 10) (h0 : 0 ≤ p.number) (h1 : p.number < ds.length) : ∃ d, ds[p.number.toNat]? = some d ∧ spell1 ds p = (subs d).map raw := by
 have h : ds[p.number.toNat]? = some (ds[p.number.toNat]'(by omega)) := List.getElem?_eq_getElem (by omega)
 refine ⟨_, h, ?_⟩
 unfold spell1
 rw [if_pos hk, h]
theorem spell1_other {ds : List Doc} {p : RawP} (hk : ¬ p.kind = 10) : spell1 ds p = [p] := if_neg hk
theorem spell_take {ds : List Doc} {ps : List RawP} {i : Nat} {p : RawP} (h : ps[i]? = some p) : spell ds (ps.take (i + 1)) = spell ds (ps.take i) ++ spell1 ds p := by
 unfold spell
 rw [List.take_succ, h, Option.toList_some, List.flatMap_append, List.flatMap_cons, List.flatMap_nil, List.append_nil]
theorem spell_take_le (ds : List Doc) (ps : List RawP) (i : Nat) : (spell ds (ps.take i)).length ≤ (spell ds ps).length := by
 have e : ps = ps.take i ++ ps.drop i := (List.take_append_drop i ps).symm
 conv => rhs; rw [e]
 unfold spell
 rw [List.flatMap_append, List.length_append]
 omega
theorem paired_append {α β : Type} {G : α → β → Prop} : ∀ {a b : List α} {c d : List β}, Paired G a c → Paired G b d → Paired G (a ++ b) (c ++ d)
 | [], _, [], _, _, h => h
 | _ :: _, _, _ :: _, _, .cons r t, h => .cons r (paired_append t h)
def sp_count_parts (A : Ad) : Sp := fun vs H Q _ => ∃ (l dl : Addr) (ps : List RawP) (ds : List Doc), vs = [.ref l, .ref dl] ∧ PartsAt A H l ps ∧ DocsAt A H dl ds ∧ NamesOk ds.length ps ∧ Q (.int (spell ds ps).length) H
def ListIn {α : Type} (R : Addr → α → Prop) (H : Hp) (l : Addr) (xs : List α) : Prop := ∃ as : List Addr, H l = some (.lst (as.map V.ref)) ∧ Paired R as xs
theorem ListIn.parts {A : Ad} {Hs H : Hp} {l : Addr} {ps : List RawP} (h : ListIn (fun a p => PartAt A Hs a p) H l ps) (s : Same Hs H) : PartsAt A H l ps := by
 obtain ⟨as, h1, h2⟩ := h
 exact ⟨as, h1, Paired.mapP h2 fun _ _ q => q.mono s⟩
theorem ListIn.docs {A : Ad} {Hs H : Hp} {l : Addr} {ds : List Doc} (h : ListIn (fun a d => DocAt A Hs a d) H l ds) (s : Same Hs H) : DocsAt A H l ds := by
 obtain ⟨as, h1, h2⟩ := h
 exact ⟨as, h1, Paired.mapP h2 fun _ _ q => q.mono s⟩
theorem ListIn.mono {α : Type} {R : Addr → α → Prop} {H H' : Hp} {l : Addr} {xs : List α} (h : ListIn R H l xs) (s : Same H H') : ListIn R H' l xs := by
 obtain ⟨as, h1, h2⟩ := h
 exact ⟨as, s _ _ h1, h2⟩
def sp_spell_out (A : Ad) : Sp := fun vs H Q _ => ∃ (Hs : Hp) (l dl : Addr) (ps : List RawP) (ds : List Doc), vs = [.ref l, .ref dl] ∧ Same Hs H ∧ ListIn (fun a p => PartAt A Hs a p) H l ps ∧ ListIn (fun a d => DocAt A Hs a d) H dl ds ∧ NamesOk ds.length ps ∧ (spell ds ps).length ≤ 600 ∧
 ∀ H' p, H p = none → Same H H' → ListIn (fun a p => PartAt A Hs a p) H' p (spell ds ps) → Q (.ref p) H'
def DocNew (A : Ad) (Hs H H' : Hp) (p : Addr) (d : Doc) : Prop := ∃ dx pl sl dl fl, H' p = some (.ins A.C_Document dx (docF pl sl dl fl)) ∧ ListIn (fun a p => PartAt A Hs a p) H' pl ((subs d).map raw) ∧ H' sl = some (.lst (intsV (sizes d))) ∧ H' dl = some (.lst (intsV (depths d))) ∧ H' fl = some (.lst (forceds d)) ∧
 H p = none ∧ H pl = none ∧ H sl = none ∧ H dl = none ∧ H fl = none
theorem DocNew.at_ {A : Ad} {Hs H H' : Hp} {p : Addr} {d : Doc} (h : DocNew A Hs H H' p d) (s : Same Hs H') : DocAt A H' p d := by
 obtain ⟨dx, pl, sl, dl, fl, h1, h2, h3, h4, h5, _⟩ := h
 exact ⟨dx, pl, sl, dl, fl, h1, h2.parts s, h3, h4, h5⟩
def sp_make_document (A : Ad) : Sp := fun vs H Q _ => ∃ (Hs : Hp) (l dl : Addr) (ps : List RawP) (ds : List Doc) (d : Doc), vs = [.ref l, .ref dl] ∧ Same Hs H ∧ ListIn (fun a p => PartAt A Hs a p) H l ps ∧ ListIn (fun a d => DocAt A Hs a d) H dl ds ∧ NamesOk ds.length ps ∧ spell ds ps = (subs d).map raw ∧
 (Vafmtb.tooLarge d = true → ∀ H', Same H H' → Q .non H') ∧ (Vafmtb.tooLarge d = false → ∀ H' p, Same H H' → DocNew A Hs H H' p d → Q (.ref p) H')
section
variable {P : Program} {w : World} {K : PySem.W.Frag} {mg : Str → Option Value} {base : Heap} {A : Ad}
theorem ok_count_parts (T : Tx A K mg) : FnOk P w K mg base CX0 1 A.f_count_parts A.fd_count_parts ["parts", "documents"] (sp_count_parts A) := by
 have nd := sc_count_parts.nd
 refine T.F_count_parts.ok sc_count_parts (fun vs H Q E h => ?_) (fun cdv Ar outer s H vs Q E hr h => ?_)
 ·obtain ⟨l, dl, ps, ds, rfl, _⟩ := h
  rfl
 ·obtain ⟨l, dl, ps, ds, rfl, ⟨as, hpl, hpp⟩, hd, hn, q⟩ := h
  refine ⟨_, (pss_cons (ps_set (i := 2) nd rfl (by first | exact Or.inl rfl | exact Or.inr rfl) pe_int) (pss_cons (ps_for PassesOwn.never rfl (pi_list (pv 0)) (pg_name (i := 3) nd rfl (by first | exact Or.inl rfl | exact Or.inr rfl)) (pss_one (ps_if (pt_cmpR op_eq (pe_fld (pv 3) rfl) (pe_gint rfl T.c_NAMED) (nomark _)) (pss_one (ps_aug (i := 2) nd rfl (by first | exact Or.inl rfl | exact Or.inr rfl) (pe_callB call_lenR rfl T.b_len PySem.boot_len (pa_cons (pe_fld (pe_ix ix_list (pv 1) (pe_fld (pv 3) rfl) (fun _ _ => rfl)) rfl) pa_nil)) ip_add)) (pss_one (ps_aug (i := 2) nd rfl (by first | exact Or.inl rfl | exact Or.inr rfl) pe_int ip_add))))) (pss_one (ps_ret (pv 2))))), ?_⟩
  refine ⟨_, rfl, l, rfl, ⟨_, SqL.of hpl⟩, ?_⟩
  refine for_list (K := K) (a := l) (xs := as.map V.ref) (fun i σ H' => ∃ v : Option V, σ = [some (.ref l), some (.ref dl), some (.int (spell ds (ps.take i)).length), v] ∧ H' = H) ⟨none, rfl, rfl⟩ (fun i σ H' _ ⟨_, _, e⟩ => by rw [e]; exact SqL.of hpl) ?_ ?_
  ·rintro i x σ H' hx ⟨v, rfl, rfl⟩
   obtain ⟨b, p, rfl, hb, hp, dy, t, e1, e2⟩ := part_of hpp hx
   refine ⟨_, rfl, b, _, dy, _, _, rfl, e1, T.cl_Part, T.n_Part_kind, rfl, rfl, _, rfl, ?_⟩
   refine ite_eqI (fun hk => ?_) (fun hk => ?_)
   ·obtain ⟨h0, h1⟩ := hn p (List.mem_of_getElem? hp) hk
    obtain ⟨d, hd1, hd2⟩ := spell1_named (ds := ds) hk h0 h1
    obtain ⟨bs, da, hdl, hda, ddx, pl, sl, dl', fl, ha, ⟨cs, hcl, hcp⟩, _⟩ := hd.get hd1
    refine ⟨_, rfl, _, rfl, _, rfl, b, _, dy, _, _, rfl, e1, T.cl_Part, T.n_Part_number, rfl, dl, _, _, _, rfl, rfl, SqL.of hdl, at_of (j := p.number.toNat) (by omega) hda, da, _, ddx, _, _, rfl, ha, T.cl_Document, T.n_Document_parts, rfl, pl, _, rfl, .inl (SqL.of hcl), _, _, rfl, rfl, ?_⟩
    refine ⟨some (.ref b), ?_, rfl⟩
    have ec : (cs.map V.ref).length = ((subs d).map raw).length := by rw [List.length_map, Paired.length hcp]
    rw [spell_take hp, hd2, List.length_append, ec, Int.natCast_add]
    rfl
   ·refine ⟨_, rfl, _, _, rfl, rfl, some (.ref b), ?_, rfl⟩
    rw [spell_take hp, spell1_other hk, List.length_append, Int.natCast_add]
    rfl
  ·rintro σ H' ⟨v, rfl, rfl⟩
   have e : (as.map V.ref).length = ps.length := by rw [List.length_map, Paired.length hpp]
   rw [e, List.take_length]
   exact ⟨_, rfl, q⟩
theorem ok_spell_out (T : Tx A K mg) : FnOk P w K mg base CX0 1 A.f_spell_out A.fd_spell_out ["parts", "documents"] (sp_spell_out A) := by
 have nd := sc_spell_out.nd
 refine T.F_spell_out.ok sc_spell_out (fun vs H Q E h => ?_) (fun cdv Ar outer s H vs Q E hr h => ?_)
 ·obtain ⟨Hs, l, dl, ps, ds, rfl, _⟩ := h
  rfl
 ·obtain ⟨Hs, l, dl, ps, ds, rfl, sS, ⟨as, hpl, hpp⟩, ⟨bs, hdl, hbs⟩, hn, hsz, q⟩ := h
  refine ⟨_, (pss_cons (ps_set (i := 2) nd rfl (by first | exact Or.inl rfl | exact Or.inr rfl) (pe_lst pa_nil)) (pss_cons (ps_for PassesOwn.never rfl (pi_list (pv 0)) (pg_name (i := 3) nd rfl (by first | exact Or.inl rfl | exact Or.inr rfl)) (pss_one (ps_if (pt_cmpR op_eq (pe_fld (pv 3) rfl) (pe_gint rfl T.c_NAMED) (nomark _)) (pss_one (ps_expr (pe_bm PySem.F.plainAttrs_list PySem.F.slot_list_extend PySem.F.type_list_extend mt_extend (pv 2) (pa_cons (pe_fld (pe_ix ix_list (pv 1) (pe_fld (pv 3) rfl) (fun _ _ => rfl)) rfl) pa_nil)))) (pss_one (ps_expr (pe_bm PySem.F.plainAttrs_list PySem.F.slot_list_append PySem.F.type_list_append mt_append (pv 2) (pa_cons (pv 3) pa_nil))))))) (pss_one (ps_ret (pv 2))))), ?_⟩
  refine ⟨Nat.zero_le _, fun r hr' => ?_⟩
  have s0 := same_upd (o := .lst []) hr'
  refine ⟨_, rfl, l, rfl, ⟨_, SqL.of (s0 _ _ hpl)⟩, ?_⟩
  refine for_list (K := K) (a := l) (xs := as.map V.ref) (fun i σ H' => ∃ v : Option V, σ = [some (.ref l), some (.ref dl), some (.ref r), v] ∧ Same H H' ∧ ∃ cs : List Addr, H' r = some (.lst (cs.map V.ref)) ∧ Paired (fun a p => PartAt A Hs a p) cs (spell ds (ps.take i))) ⟨none, rfl, s0, [], upd_same, .nil⟩ (fun i σ H' _ ⟨_, _, s, _⟩ => SqL.of (s _ _ hpl)) ?_ ?_
  ·rintro i x σ H' hx ⟨v, rfl, s, cs, hr1, hcs⟩
   obtain ⟨b, p, rfl, hb, hp, hpa⟩ := part_of hpp hx
   obtain ⟨dy, t, e1, e2⟩ := id hpa
   have lcs := Paired.length hcs
   have lt := spell_take_le ds ps (i + 1)
   rw [spell_take hp, List.length_append] at lt
   refine ⟨_, rfl, b, _, dy, _, _, rfl, s _ _ (sS _ _ e1), T.cl_Part, T.n_Part_kind, rfl, rfl, _, rfl, ?_⟩
   refine ite_eqI (fun hk => ?_) (fun hk => ?_)
   ·obtain ⟨h0, h1⟩ := hn p (List.mem_of_getElem? hp) hk
    obtain ⟨d, hd1, hd2⟩ := spell1_named (ds := ds) hk h0 h1
    obtain ⟨da, hda0, ddx, pl, sl, dl', fl, ha, ⟨es, hcl, hcp⟩, _⟩ := paired_back hbs hd1
    have hda : (bs.map V.ref)[p.number.toNat]? = some (V.ref da) := by rw [List.getElem?_map, hda0]; rfl
    have les := Paired.length hcp
    rw [hd2] at lt
    refine ⟨_, rfl, .inl ⟨rfl, _, SqL.of hr1⟩, _, rfl, _, rfl, b, _, dy, _, _, rfl, s _ _ (sS _ _ e1), T.cl_Part, T.n_Part_number, rfl, dl, _, _, _, rfl, rfl, SqL.of (s _ _ hdl), at_of (j := p.number.toNat) (by omega) hda, da, _, ddx, _, _, rfl, s _ _ (sS _ _ ha), T.cl_Document, T.n_Document_parts, rfl, r, pl, _, _, rfl, rfl, hr1, s _ _ (sS _ _ hcl), ?_, ?_⟩
    ·rw [List.length_map, List.length_map]
     exact line_le (by omega)
    ·refine ⟨_, rfl, s.wr hr', cs ++ es, ?_, ?_⟩
     ·rw [upd_same, List.map_append]
     ·rw [spell_take hp, hd2]
      exact paired_append hcs hcp
   ·rw [spell1_other hk, List.length_singleton] at lt
    refine ⟨_, rfl, .inl ⟨rfl, _, SqL.of hr1⟩, _, rfl, r, _, _, rfl, rfl, hr1, ?_, ?_⟩
    ·rw [List.length_map]
     exact Nat.lt_of_lt_of_le (m := 1000) (by omega) (line_le (by omega))
    ·refine ⟨_, rfl, s.wr hr', cs ++ [b], ?_, ?_⟩
     ·rw [upd_same, List.map_append]
      rfl
     ·rw [spell_take hp, spell1_other hk]
      exact paired_append hcs (.cons hpa .nil)
  ·rintro σ H' ⟨v, rfl, s, cs, hr1, hcs⟩
   have e : (as.map V.ref).length = ps.length := by rw [List.length_map, Paired.length hpp]
   rw [e, List.take_length] at hcs
   exact ⟨_, rfl, q _ r hr' s ⟨cs, hr1, hcs⟩⟩
theorem ok_make_document (T : Tx A K mg) : FnOk P w K mg base CX0 6 A.f_make_document A.fd_make_document ["parts", "documents"] (sp_make_document A) := by
 have nd := sc_make_document.nd
 refine T.F_make_document.ok sc_make_document (fun vs H Q E h => ?_) (fun cdv Ar outer s H vs Q E hr h => ?_)
 ·obtain ⟨Hs, l, dl, ps, ds, d, rfl, _⟩ := h
  rfl
 ·obtain ⟨Hs, l, dl, ps, ds, d, rfl, sS, hp, hd, hn, hs, q1, q2⟩ := h
  have lsp : (spell ds ps).length = d.size := by rw [hs, List.length_map, subs_length]
  have tl : Vafmtb.tooLarge d = (decide (600 < d.size) || decide (40 < d.depth) || decide (4000 < d.bytes)) := rfl
  refine ⟨_, (pss_cons (ps_if (pt_cmpR op_gt (pe_call (ok_count_parts T) (hr.mono (by decide)) rfl T.mg_count_parts T.kp_count_parts T.b_count_parts .nil pass0 (pa_cons (pv 0) (pa_cons (pv 1) pa_nil))) (pe_gint rfl T.c_MOST_PARTS) (nomark _)) (pss_one (ps_ret pe_non)) pss_nil) (pss_cons (ps_set (i := 2) nd rfl (by first | exact Or.inl rfl | exact Or.inr rfl) (pe_make T.k_Document (ok_Document___init__ T) (hr.mono (by decide)) rfl T.mg_Document T.b_Document___init__ .nil pass0 (pa_cons (pe_call (ok_spell_out T) (hr.mono (by decide)) rfl T.mg_spell_out T.kp_spell_out T.b_spell_out .nil pass0 (pa_cons (pv 0) (pa_cons (pv 1) pa_nil))) pa_nil))) (pss_cons (ps_if (PW.pt (pw_or (pt_cmpR op_gt (pe_ix ix_list (pe_fld (pv 2) rfl) pe_int (fun _ _ => rfl)) (pe_gint rfl T.c_MOST_DEPTH) (nomark _)) (pw_or1 (pt_cmpR op_gt (pe_meth0 (pv 2) T.cl_Document T.m_Document_count_bytes (ok_Document_count_bytes T) (hr.mono (by decide)) T.b_Document_count_bytes .nil pass0) (pe_gint rfl T.c_MOST_BYTES) (nomark _))))) (pss_one (ps_ret pe_non)) pss_nil) (pss_one (ps_ret (pv 2)))))), ?_⟩
  refine ⟨_, rfl, _, rfl, l, dl, ps, ds, rfl, hp.parts sS, hd.docs sS, hn, ?_⟩
  rw [lsp]
  refine ⟨_, _, rfl, rfl, _, rfl, ite_dec (fun hk => ?_) (fun hk => ?_)⟩
  ·refine q1 ?_ _ (.refl _)
   rw [tl, decide_eq_true (by omega)]
   rfl
  ·refine ⟨_, rfl, _, rfl, Hs, l, dl, ps, ds, rfl, sS, hp, hd, hn, by omega, fun H1 pl npl s1 hpl => ?_⟩
   intro x dx nx ndx nex
   rw [hs] at hpl
   have s2 : Same H1 (upd (upd H1 dx (.own x)) x (.ins A.C_Document dx [])) := fun b o e => by
    rw [upd_ne (ne_of_none e nx), upd_ne (ne_of_none e ndx)]
    exact e
   refine ⟨x, dx, pl, d, rfl, upd_same, (hpl.parts (sS.trans s1)).mono s2, by omega, fun H2 sl dl' fl ha hsl hdl hfl nsl ndl nfl k2 => ⟨rfl, ?_⟩⟩
   have s3 : Same H1 H2 := fun b o e => k2 b o (s2 _ _ e) (ne_of_none e nx)
   have hN : DocNew A Hs H H2 x d := ⟨dx, pl, sl, dl', fl, ha, hpl.mono s3, hsl, hdl, hfl, s1.free nx, npl, s1.free (s2.free nsl), s1.free (s2.free ndl), s1.free (s2.free nfl)⟩
   have hD : DocAt A H2 x d := hN.at_ ((sS.trans s1).trans s3)
   have hd0 : (intsV (depths d))[0]? = some (.int d.depth) := by
    rw [depths, subs_eq]
    rfl
   refine ⟨_, rfl, x, _, dx, _, _, rfl, ha, T.cl_Document, T.n_Document_depths, rfl, dl', _, _, _, rfl, rfl, SqL.of hdl, atI_nat (j := 0) hd0, _, _, rfl, rfl, _, rfl, ?_⟩
   refine ite_dec (fun hk2 => ?_) (fun hk2 => ?_)
   ·refine iteT (q1 ?_ _ (s1.trans s3))
    rw [tl, decide_eq_true (show 40 < d.depth by omega), Bool.or_true]
    rfl
   ·refine ⟨_, rfl, x, dx, _, rfl, ha, rfl, x, d, rfl, hD, by omega, fun H3 s4 => ?_⟩
    refine ⟨_, _, rfl, rfl, _, rfl, ?_⟩
    refine ite_dec (fun hk3 => ?_) (fun hk3 => ?_)
    ·refine q1 ?_ _ ((s1.trans s3).trans s4)
     rw [tl, decide_eq_true (show 4000 < d.bytes by omega), Bool.or_true]
    ·refine ⟨_, rfl, q2 ?_ _ x ((s1.trans s3).trans s4) ?_⟩
     ·rw [tl, decide_eq_false (by omega), decide_eq_false (by omega), decide_eq_false (by omega)]
      rfl
     ·obtain ⟨z0, z1, z2, z3, z4, y1, y2, y3, y4, y5, y6⟩ := hN
      exact ⟨z0, z1, z2, z3, z4, s4 _ _ y1, y2.mono s4, s4 _ _ y3, s4 _ _ y4, s4 _ _ y5, y6⟩
end
end WL
set_option Elab.async false
set_option linter.all false
set_option maxRecDepth 100000
set_option maxHeartbeats 2000000
namespace WL
open PySem PySem.Spec PyProof.Rows L2
open Vafmtb (Doc)
theorem atI_last' {l : List Int} {z : Int} (h : l.getLast? = some z) : atI (intsV l) (-1) = some (.int z) := by
 obtain ⟨ys, rfl⟩ := List.getLast?_eq_some_iff.mp h
 rw [intsV_append]
 exact atI_last _ _
theorem chain_le {a b c : Int} {H : Hp} {Q : VK} (h : Q (.bl (decide (a ≤ b) && decide (b ≤ c))) H) : if decide (a ≤ b) = true then (∃ i j, V.int b = .int i ∧ V.int c = .int j ∧ Q (.bl (decide (i ≤ j))) H) else Q (.bl false) H := by
 refine ite_dec (fun h1 => ?_) (fun h1 => ?_)
 ·rw [decide_eq_true h1, Bool.true_and] at h
  exact ⟨_, _, rfl, rfl, h⟩
 ·rw [decide_eq_false h1, Bool.false_and] at h
  exact h
def sp_is_text (A : Ad) : Sp := fun vs H Q _ => ∃ (t : Addr) (l : List Int), vs = [.ref t] ∧ H t = some (.lst (intsV l)) ∧ 1 ≤ l.length ∧ l.length ≤ 1000 ∧ ∀ H', Same H H' → Q (.bl (textOk l)) H'
def sp_number_is_right (A : Ad) : Sp := fun vs H Q _ => ∃ (k n : Int) (held : Nat), vs = [.int k, .int n, .int held] ∧ Q (.bl (numberRight k n held)) H
section
variable {P : Program} {w : World} {K : PySem.W.Frag} {mg : Str → Option Value} {base : Heap} {A : Ad}
theorem ok_is_text (T : Tx A K mg) : FnOk P w K mg base CX0 1 A.f_is_text A.fd_is_text ["text"] (sp_is_text A) := by
 have nd := sc_is_text.nd
 refine T.F_is_text.ok sc_is_text (fun vs H Q E h => ?_) (fun cdv Ar outer s H vs Q E hr h => ?_)
 ·obtain ⟨t, l, rfl, _⟩ := h
  rfl
 ·obtain ⟨t, l, rfl, ht, h1, h2, q⟩ := h
  refine ⟨_, (pss_cons (ps_if (PW.pt (pw_or (pt_cmpR op_eq (pe_ix ix_list (pv 0) pe_int (fun _ _ => rfl)) (pe_gint rfl T.c_BLANK_BYTE) (nomark _)) (pw_or1 (pt_cmpR op_eq (pe_ix ix_list (pv 0) (pe_un un_neg pe_int) (fun _ _ => rfl)) (pe_gint rfl T.c_BLANK_BYTE) (nomark _))))) (pss_one (ps_ret pe_bl)) pss_nil) (pss_one (ps_ret (pe_callB (call_all rfl) rfl T.b_all boot_all (pa_cons (pe_lc (own := [("byte", 1)]) rfl nd (pi_list (pv 0)) (show BlkOk ["text", "byte"] (defScope s_is_text) _ _ from ⟨rfl, by decide +kernel, by decide +kernel, by decide +kernel, by decide +kernel⟩) (fun _ _ _ _ _ => pg_name (i := 1) nd rfl (Or.inl rfl)) (fun _ _ _ _ _ => pts_nil) (fun _ _ _ _ _ => (pe_and (pe_chain op_le op_le pe_int (pv 1) pe_int) (pe_one (pe_cmpR op_ne (pv 1) (pe_gint rfl T.c_BREAK_BYTE) (nomark _)))))) pa_nil))))), ?_⟩
  obtain ⟨z0, l', rfl⟩ : ∃ z l', l = z :: l' := by
   cases l with
   | nil => simp at h1
   | cons z l' => exact ⟨z, l', rfl⟩
  obtain ⟨z1, hz1⟩ : ∃ z, (z0 :: l').getLast? = some z := ⟨_, List.getLast?_eq_some_getLast (by simp)⟩
  have fin : textOk (z0 :: l') = (!(decide (z0 = 32) || decide (z1 = 32)) && (z0 :: l').all fun b => decide (0 ≤ b) && decide (b ≤ 255) && !decide (b = 10)) := by
   unfold textOk
   rw [hz1]
   have e1 : ((z0 :: l').head? == some (32 : Int)) = decide (z0 = 32) := by
    show (z0 == 32) = _
    rw [Bool.eq_iff_iff]
    simp
   have e2 : ((some z1 : Option Int) == some 32) = decide (z1 = 32) := by
    show (z1 == 32) = _
    rw [Bool.eq_iff_iff]
    simp
   rw [e1, e2]
  refine ⟨_, rfl, t, _, _, _, rfl, rfl, SqL.of ht, atI_nat (j := 0) (v := .int z0) rfl, rfl, _, rfl, ?_⟩
  refine ite_eqI (fun hk => ?_) (fun hk => ?_)
  ·refine iteT ?_
   show Q (.bl false) H
   have : textOk (z0 :: l') = false := by
    rw [fin, decide_eq_true hk]
    rfl
   rw [← this]
   exact q _ (.refl _)
  ·refine ⟨_, rfl, _, rfl, t, _, _, _, rfl, rfl, SqL.of ht, atI_last' hz1, rfl, _, rfl, ?_⟩
   refine ite_eqI (fun hk2 => ?_) (fun hk2 => ?_)
   ·show Q (.bl false) H
    have : textOk (z0 :: l') = false := by
     rw [fin, decide_eq_true hk2, Bool.or_true]
     rfl
    rw [← this]
    exact q _ (.refl _)
   ·dsimp only [tNext, tRet, tCB, tCons]
    refine lcv ((z0 :: l').map fun b => V.bl (decide (0 ≤ b) && decide (b ≤ 255) && !decide (b = 10))) (by rfl) (SqL.of ht) (by rw [List.length_map, intsV_length]) (line_le (by rw [List.length_map]; omega)) (fun i x y H' hx hy s R hR => ?_) fun D H' hD s hd => ?_
    ·rw [intsV, List.getElem?_map] at hx
     rw [List.getElem?_map] at hy
     cases e : (z0 :: l')[i]? with
     | none =>
      rw [e] at hx
      cases hx
     | some b =>
      rw [e] at hx hy
      have ex : V.int b = x := Option.some.inj hx
      have ey : V.bl (decide (0 ≤ b) && decide (b ≤ 255) && !decide (b = 10)) = y := Option.some.inj hy
      subst ex ey
      have hR' := hR H' (.refl _)
      refine ⟨_, rfl, _, _, rfl, rfl, _, rfl, ite_dec (fun h1 => ?_) (fun h1 => ?_)⟩
      ·refine ⟨_, _, rfl, rfl, _, rfl, ite_dec (fun h2 => ?_) (fun h2 => ?_)⟩
       ·refine ⟨_, rfl, rfl, ?_⟩
        rw [decide_eq_true h1, decide_eq_true h2, show decide (b = 10) = decide (V.int b = V.int 10) by simp] at hR'
        exact hR'
       ·rw [decide_eq_false h2, Bool.and_false, Bool.false_and] at hR'
        exact hR'
      ·rw [decide_eq_false h1, Bool.false_and, Bool.false_and] at hR'
       exact ⟨_, rfl, iteF hR'⟩
    ·refine ⟨D, (z0 :: l').map fun b => decide (0 ≤ b) && decide (b ≤ 255) && !decide (b = 10), rfl, SqL.of (by rw [hd, List.map_map]; rfl), ?_⟩
     have : ((z0 :: l').map fun b => decide (0 ≤ b) && decide (b ≤ 255) && !decide (b = 10)).all id = textOk (z0 :: l') := by
      rw [fin, decide_eq_false hk, decide_eq_false hk2, List.all_map]
      rfl
     rw [this]
     exact q _ s
theorem ok_number_is_right (T : Tx A K mg) : FnOk P w K mg base CX0 1 A.f_number_is_right A.fd_number_is_right ["kind", "number", "held"] (sp_number_is_right A) := by
 have nd := sc_number_is_right.nd
 refine T.F_number_is_right.ok sc_number_is_right (fun vs H Q E h => ?_) (fun cdv Ar outer s H vs Q E hr h => ?_)
 ·obtain ⟨k, n, held, rfl, _⟩ := h
  rfl
 ·obtain ⟨k, n, held, rfl, q⟩ := h
  unfold numberRight at q
  refine ⟨_, (pss_cons (ps_if (pt_cmpR op_eq (pv 0) (pe_gint rfl T.c_TEXT) (nomark _)) (pss_one (ps_ret (pe_chain op_le op_le pe_int (pv 1) (pe_gint rfl T.c_MOST_TEXT)))) pss_nil) (pss_cons (ps_if (pt_cmpR op_eq (pv 0) (pe_gint rfl T.c_INDENTED) (nomark _)) (pss_one (ps_ret (pe_chain op_le op_le pe_int (pv 1) (pe_gint rfl T.c_MOST_INDENT)))) pss_nil) (pss_cons (ps_if (pt_cmpR op_eq (pv 0) (pe_gint rfl T.c_NAMED) (nomark _)) (pss_one (ps_ret (pe_chain op_le op_lt pe_int (pv 1) (pv 2)))) pss_nil) (pss_one (ps_ret (pe_cmpR op_le pe_int (pv 1) (nomark _))))))), ?_⟩
  refine ⟨_, rfl, rfl, _, rfl, ite_eqI (fun hk => ?_) (fun hk => ?_)⟩
  ·rw [if_pos hk] at q
   exact ⟨_, rfl, _, _, rfl, rfl, _, rfl, chain_le q⟩
  rw [if_neg hk] at q
  refine ⟨_, rfl, rfl, _, rfl, ite_eqI (fun hk => ?_) (fun hk => ?_)⟩
  ·rw [if_pos hk] at q
   exact ⟨_, rfl, _, _, rfl, rfl, _, rfl, chain_le q⟩
  rw [if_neg hk] at q
  refine ⟨_, rfl, rfl, _, rfl, ite_eqI (fun hk => ?_) (fun hk => ?_)⟩
  ·rw [if_pos hk] at q
   exact ⟨_, rfl, _, _, rfl, rfl, _, rfl, ite_dec (fun h1 => ⟨_, rfl, _, _, rfl, rfl, by rw [decide_eq_true h1, Bool.true_and] at q; exact q⟩) (fun h1 => by rw [decide_eq_false h1, Bool.false_and] at q; exact q)⟩
  rw [if_neg hk] at q
  exact ⟨_, rfl, _, _, rfl, rfl, q⟩
end
end WL
set_option Elab.async false
set_option linter.all false
set_option maxRecDepth 100000
set_option maxHeartbeats 2000000
namespace WL
open PySem PySem.Spec PyProof.Rows L2
open Vafmtb (Doc)
theorem cut_row {x r : List Int} {p n : Nat} (h : x.drop (p + 2) = r) (hp : p + 2 ≤ x.length) : cutV (intsV x) (some ((p + 2 : Nat) : Int)) (some (((p + 2 + n : Nat)) : Int)) = intsV (r.take n) := by
 unfold cutV
 rw [HT.sIx_nat, HT.sIx_nat, intsV_length, Nat.min_eq_left hp, ← h]
 unfold intsV
 rw [← List.map_drop, ← List.map_take]
 congr 1
 by_cases hn : p + 2 + n ≤ x.length
 ·rw [Nat.min_eq_left hn, show p + 2 + n - (p + 2) = n by omega]
 ·rw [Nat.min_eq_right (by omega), List.take_of_length_le (by rw [List.length_drop]; omega), List.take_of_length_le (by rw [List.length_drop]; omega)]
def PartNew (A : Ad) (H H' : Hp) (a : Addr) (p : RawP) : Prop := ∃ dx t, H' a = some (.ins A.C_Part dx (partF p t)) ∧ H' t = some (.lst (intsV p.text)) ∧ H a = none ∧ H t = none
theorem PartNew.back {A : Ad} {H H1 H' : Hp} {a : Addr} {p : RawP} (h : PartNew A H1 H' a p) (s : Same H H1) : PartNew A H H' a p := by
 obtain ⟨dx, t, h1, h2, h3, h4⟩ := h
 exact ⟨dx, t, h1, h2, s.free h3, s.free h4⟩
def PartRes (A : Ad) (H : Hp) (o : Option (RawP × List Int)) (Q : VK) : Prop := match o with
 | none => ∀ H', Same H H' → Q .non H'
 | some q => ∀ H' a, Same H H' → PartNew A H H' a q.1 → Q (.ref a) H'
def sp_read_numbered (A : Ad) : Sp := fun vs H Q _ => ∃ (r : Addr) (x : List Int) (p held : Nat) (k : Int) (y : List Int), vs = [.ref r, .int p, .int held] ∧ H r = some (.lst (intsV x)) ∧ x.drop p = k :: y ∧ (k = 0 ∨ k = 6 ∨ k = 7 ∨ k = 10) ∧ PartRes A H (headPart held (k :: y)) Q
def sp_read_part (A : Ad) : Sp := fun vs H Q _ => ∃ (r : Addr) (x : List Int) (p held : Nat), vs = [.ref r, .int p, .int held] ∧ H r = some (.lst (intsV x)) ∧ p ≤ x.length ∧ PartRes A H (headPart held (x.drop p)) Q
section
variable {P : Program} {w : World} {K : PySem.W.Frag} {mg : Str → Option Value} {base : Heap} {A : Ad}
theorem made_part {H0 H : Hp} {a dx t : Addr} {k n : Int} {l : List Int} (s0 : Same H0 H) (nt : H0 t = none) (ht : H t = some (.lst (intsV l))) (nx : H a = none) (ndx : H dx = none) :
  PartNew A H0 (upd (upd (upd H dx (.own a)) a (.ins A.C_Part dx [])) a (.ins A.C_Part dx (partF ⟨k, n, []⟩ t))) a ⟨k, n, l⟩ ∧ Same H (upd (upd (upd H dx (.own a)) a (.ins A.C_Part dx [])) a (.ins A.C_Part dx (partF ⟨k, n, []⟩ t))) := by
 have s : Same H (upd (upd (upd H dx (.own a)) a (.ins A.C_Part dx [])) a (.ins A.C_Part dx (partF ⟨k, n, []⟩ t))) := fun b o e => by
  rw [upd_ne (ne_of_none e nx), upd_ne (ne_of_none e nx), upd_ne (ne_of_none e ndx)]
  exact e
 exact ⟨⟨dx, t, upd_same, s _ _ ht, s0.free nx, nt⟩, s⟩
theorem iteNE {i j : Int} {A B : Prop} (h : ¬ i = j) (a : A) : if (!decide (V.int i = V.int j)) = true then A else B := by
 rw [decide_eq_false (fun q => h (V.int.inj q))]
 exact a
theorem drop_get {x y : List Int} {p : Nat} {k : Int} (h : x.drop p = k :: y) : x[p]? = some k ∧ x.drop (p + 1) = y ∧ p < x.length := by
 have hp : p < x.length := by
  have : (x.drop p).length = (k :: y).length := by rw [h]
  rw [List.length_drop, List.length_cons] at this
  omega
 rw [List.drop_eq_getElem_cons hp] at h
 obtain ⟨e1, e2⟩ := List.cons.inj h
 exact ⟨by rw [List.getElem?_eq_getElem hp, e1], e2, hp⟩
theorem ok_read_numbered (T : Tx A K mg) : FnOk P w K mg base CX0 3 A.f_read_numbered A.fd_read_numbered ["row", "place", "held"] (sp_read_numbered A) := by
 have nd := sc_read_numbered.nd
 refine T.F_read_numbered.ok sc_read_numbered (fun vs H Q E h => ?_) (fun cdv Ar outer s H vs Q E hr h => ?_)
 ·obtain ⟨r, x, p, held, k, y, rfl, _⟩ := h
  rfl
 ·obtain ⟨r, x, p, held, k, y, rfl, hx, hd, hk, q⟩ := h
  obtain ⟨g0, d1, lp⟩ := drop_get hd
  have nk : ¬ (k < 0 ∨ 10 < k) := by omega
  refine ⟨_, (pss_cons (ps_set (i := 3) nd rfl (by first | exact Or.inl rfl | exact Or.inr rfl) (pe_ix ix_list (pv 0) (pv 1) (fun _ _ => rfl))) (pss_cons (ps_if (PW.pt (pw_or (pt_cmpR op_eq (pe_op op_add (pv 1) pe_int) (pe_callB call_lenR rfl T.b_len PySem.boot_len (pa_cons (pv 0) pa_nil)) (nomark _)) (pw_or1 (pt_not (pt_truth (pe_call (ok_number_is_right T) (hr.mono (by decide)) rfl T.mg_number_is_right T.kp_number_is_right T.b_number_is_right .nil pass0 (pa_cons (pv 3) (pa_cons (pe_ix ix_list (pv 0) (pe_op op_add (pv 1) pe_int) (fun _ _ => rfl)) (pa_cons (pv 2) pa_nil)))) (fun _ => rfl)))))) (pss_one (ps_ret pe_non)) pss_nil) (pss_cons (ps_set (i := 4) nd rfl (by first | exact Or.inl rfl | exact Or.inr rfl) (pe_ix ix_list (pv 0) (pe_op op_add (pv 1) pe_int) (fun _ _ => rfl))) (pss_cons (ps_if (pt_cmpR op_ne (pv 3) (pe_gint rfl T.c_TEXT) (nomark _)) (pss_one (ps_ret (pe_make T.k_Part (ok_Part___init__ T) (hr.mono (by decide)) rfl T.mg_Part T.b_Part___init__ .nil pass0 (pa_cons (pv 3) (pa_cons (pv 4) (pa_cons (pe_lst pa_nil) pa_nil)))))) pss_nil) (pss_cons (ps_set (i := 5) nd rfl (by first | exact Or.inl rfl | exact Or.inr rfl) (pe_slice sl_list (pv 0) (po_some (pe_op op_add (pv 1) pe_int)) (po_some (pe_op op_add (pe_op op_add (pv 1) pe_int) (pv 4))))) (pss_cons (ps_if (PW.pt (pw_or (pt_cmpR op_lt (pe_callB call_lenR rfl T.b_len PySem.boot_len (pa_cons (pv 5) pa_nil)) (pv 4) (nomark _)) (pw_or1 (pt_not (pt_truth (pe_call (ok_is_text T) (hr.mono (by decide)) rfl T.mg_is_text T.kp_is_text T.b_is_text .nil pass0 (pa_cons (pv 5) pa_nil)) (fun _ => rfl)))))) (pss_one (ps_ret pe_non)) pss_nil) (pss_one (ps_ret (pe_make T.k_Part (ok_Part___init__ T) (hr.mono (by decide)) rfl T.mg_Part T.b_Part___init__ .nil pass0 (pa_cons (pv 3) (pa_cons (pv 4) (pa_cons (pv 5) pa_nil)))))))))))), ?_⟩
  refine ⟨_, rfl, _, rfl, r, _, _, _, rfl, rfl, SqL.of hx, atI_nat (intsV_get g0), ?_⟩
  refine ⟨_, rfl, _, _, rfl, rfl, _, rfl, r, _, rfl, .inl (SqL.of hx), rfl, _, rfl, ?_⟩
  rw [intsV_length]
  cases y with
  | nil =>
   have lx : x.length = p + 1 := by
    have : (x.drop (p + 1)).length = ([] : List Int).length := by rw [d1]
    rw [List.length_drop, List.length_nil] at this
    omega
   have e : headPart held [k] = none := by
    simp only [headPart]
    rw [if_neg nk, if_pos hk]
   rw [e] at q
   refine ite_eqI (fun _ => iteT (q _ (.refl _))) (fun hne => absurd (show (p : Int) + 1 = x.length by omega) hne)
  | cons n y =>
   obtain ⟨g1, d2, lp2⟩ := drop_get d1
   have e : headPart held (k :: n :: y) = if numberRight k n held = false then none
     else if k ≠ 0 then some (⟨k, n, []⟩, y)
     else if (y.length : Int) < n ∨ textOk (y.take n.toNat) = false then none
     else some (⟨k, n, y.take n.toNat⟩, y.drop n.toNat) := by
    conv => lhs; simp only [headPart]
    rw [if_neg nk, if_pos hk]
   rw [e] at q
   have g1' : (intsV x)[p + 1]? = some (.int n) := intsV_get g1
   refine ite_eqI (fun hne => absurd hne (by omega)) (fun _ => ?_)
   refine ⟨_, rfl, _, rfl, _, rfl, _, _, rfl, rfl, r, _, _, _, rfl, rfl, SqL.of hx, at_of (j := p + 1) (by omega) g1', _, rfl, k, n, held, rfl, _, rfl, ?_⟩
   cases hn : numberRight k n held with
   | false =>
    rw [hn, if_pos rfl] at q
    exact q _ (.refl _)
   | true =>
    rw [hn, if_neg (by decide)] at q
    refine ⟨_, rfl, _, rfl, _, _, rfl, rfl, r, _, _, _, rfl, rfl, SqL.of hx, at_of (j := p + 1) (by omega) g1', ?_⟩
    refine ⟨_, rfl, rfl, _, rfl, ?_⟩
    by_cases hk0 : k = 0
    ·subst hk0
     rw [if_neg (by simp)] at q
     have hnr : 1 ≤ n ∧ n ≤ 1000 := by
      unfold numberRight at hn
      rw [if_pos rfl, Bool.and_eq_true] at hn
      exact ⟨of_decide_eq_true hn.1, of_decide_eq_true hn.2⟩
     refine iteNS rfl ?_
     refine ⟨_, rfl, _, rfl, _, _, rfl, rfl, _, rfl, _, rfl, _, _, rfl, rfl, _, rfl, _, _, rfl, rfl, _, rfl, r, _, rfl, SqL.of hx, fun t nt => ?_⟩
     have ec : cutV (intsV x) (some ((p : Int) + 2)) (some ((p : Int) + 2 + n)) = intsV (y.take n.toNat) := by
      have := cut_row (x := x) (p := p) (n := n.toNat) d2 (by omega)
      rw [show ((p + 2 : Nat) : Int) = (p : Int) + 2 by omega, show ((p + 2 + n.toNat : Nat) : Int) = (p : Int) + 2 + n by omega] at this
      exact this
     dsimp only [gName]
     rw [ec]
     have s1 := same_upd (o := .lst (intsV (y.take n.toNat))) nt
     have hl : (y.take n.toNat).length = min n.toNat y.length := List.length_take ..
     refine ⟨_, rfl, t, _, rfl, .inl (SqL.of upd_same), _, rfl, _, _, rfl, rfl, _, rfl, ?_⟩
     rw [intsV_length, hl]
     refine ite_dec (fun hlt => ?_) (fun hlt => ?_)
     ·rw [if_pos (.inl (by omega))] at q
      exact iteT (q _ s1)
     ·refine ⟨_, rfl, t, _, rfl, upd_same, by omega, by omega, fun H2 s2 => ?_⟩
      have s12 := s1.trans s2
      refine ⟨_, rfl, ?_⟩
      cases htx : textOk (y.take n.toNat) with
      | false =>
       rw [if_pos (.inr htx)] at q
       exact q _ s12
      | true =>
       rw [if_neg (by intro z; rcases z with z | z; omega; rw [htx] at z; cases z)] at q
       refine ⟨_, rfl, _, rfl, _, rfl, ?_⟩
       intro a dx nx ndx nex
       have ht2 : H2 t = some (.lst (intsV (y.take n.toNat))) := s2 _ _ upd_same
       obtain ⟨m1, m2⟩ := made_part (A := A) (k := 0) (n := n) s12 nt ht2 nx ndx
       refine ⟨a, dx, t, 0, n, rfl, upd_same, rfl, ?_⟩
       exact q _ a (s12.trans m2) m1
    ·rw [if_pos hk0] at q
     refine iteNE hk0 ?_
     refine ⟨_, rfl, _, rfl, Nat.zero_le _, fun t nt => ?_⟩
     have s1 := same_upd (o := .lst []) nt
     intro a dx nx ndx nex
     obtain ⟨m1, m2⟩ := made_part (A := A) (k := k) (n := n) (l := []) (H := upd H t (.lst [])) (t := t) s1 nt upd_same nx ndx
     refine ⟨a, dx, t, k, n, rfl, upd_same, rfl, ?_⟩
     exact q _ a (s1.trans m2) m1
theorem ok_read_part (T : Tx A K mg) : FnOk P w K mg base CX0 4 A.f_read_part A.fd_read_part ["row", "place", "held"] (sp_read_part A) := by
 have nd := sc_read_part.nd
 refine T.F_read_part.ok sc_read_part (fun vs H Q E h => ?_) (fun cdv Ar outer s H vs Q E hr h => ?_)
 ·obtain ⟨r, x, p, held, rfl, _⟩ := h
  rfl
 ·obtain ⟨r, x, p, held, rfl, hx, lp, q⟩ := h
  refine ⟨_, (pss_cons (ps_if (PW.pt (pw_or (pt_cmpR op_eq (pv 1) (pe_callB call_lenR rfl T.b_len PySem.boot_len (pa_cons (pv 0) pa_nil)) (nomark _)) (pw_or1 (pt_not (pt_chain op_le op_le (pe_gint rfl T.c_TEXT) (pe_ix ix_list (pv 0) (pv 1) (fun _ _ => rfl)) (pe_gint rfl T.c_NAMED)))))) (pss_one (ps_ret pe_non)) pss_nil) (pss_cons (ps_if (pt_cmpR op_in_seq (pe_ix ix_list (pv 0) (pv 1) (fun _ _ => rfl)) (pe_tup (pa_cons (pe_gint rfl T.c_TEXT) (pa_cons (pe_gint rfl T.c_ROW) (pa_cons (pe_gint rfl T.c_INDENTED) (pa_cons (pe_gint rfl T.c_NAMED) pa_nil))))) (by with_unfolding_all rfl)) (pss_one (ps_ret (pe_call (ok_read_numbered T) (hr.mono (by decide)) rfl T.mg_read_numbered T.kp_read_numbered T.b_read_numbered .nil pass0 (pa_cons (pv 0) (pa_cons (pv 1) (pa_cons (pv 2) pa_nil)))))) pss_nil) (pss_one (ps_ret (pe_make T.k_Part (ok_Part___init__ T) (hr.mono (by decide)) rfl T.mg_Part T.b_Part___init__ .nil pass0 (pa_cons (pe_ix ix_list (pv 0) (pv 1) (fun _ _ => rfl)) (pa_cons pe_int (pa_cons (pe_lst pa_nil) pa_nil)))))))), ?_⟩
  refine ⟨_, rfl, _, rfl, r, _, rfl, .inl (SqL.of hx), rfl, _, rfl, ?_⟩
  rw [intsV_length]
  cases hd : x.drop p with
  | nil =>
   have lx : x.length ≤ p := List.drop_eq_nil_iff.mp hd
   rw [hd] at q
   exact ite_eqI (fun _ => iteT (q _ (.refl _))) (fun hne => absurd (show (p : Int) = x.length by omega) hne)
  | cons k y =>
   obtain ⟨g0, d1, lp⟩ := drop_get hd
   rw [hd] at q
   refine ite_eqI (fun hne => absurd hne (by omega)) (fun _ => ?_)
   have neg : (k < 0 ∨ 10 < k) → Q .non H := fun hk => by
    have e : headPart held (k :: y) = none := by
     simp only [headPart]
     rw [if_pos hk]
    rw [e] at q
    exact q _ (.refl _)
   have g0' : (intsV x)[p]? = some (.int k) := intsV_get g0
   refine ⟨_, rfl, _, rfl, r, _, _, _, rfl, rfl, SqL.of hx, atI_nat g0', _, _, rfl, rfl, _, rfl, ?_⟩
   refine ite_dec (fun h1 => ?_) (fun h1 => ⟨_, rfl, neg (.inl (by omega))⟩)
   refine ⟨_, _, rfl, rfl, _, rfl, ?_⟩
   by_cases h2 : k ≤ 10
   ·rw [decide_eq_true h2]
    have nk : ¬ (k < 0 ∨ 10 < k) := by omega
    refine iteF ?_
    refine ⟨_, rfl, _, rfl, r, _, _, _, rfl, rfl, SqL.of hx, atI_nat g0', ?_⟩
    refine ⟨(by show 4 ≤ sizeLine; decide), fun c hc => ?_⟩
    have s := same_upd (o := .tup [.int 0, .int 6, .int 7, .int 10]) hc
    refine ⟨c, [.int 0, .int 6, .int 7, .int 10], rfl, .inr (SqT.of upd_same), rfl, rfl, _, rfl, ?_⟩
    refine ite_in [0, 6, 7, 10] (fun hk => ?_) (fun hk => ?_)
    ·refine ⟨_, rfl, _, rfl, _, rfl, r, x, p, held, k, y, rfl, s _ _ hx, hd, by simpa using hk, ?_⟩
     cases e : headPart held (k :: y) with
     | none =>
      rw [e] at q
      exact fun H' s' => q _ (s.trans s')
     | some z =>
      rw [e] at q
      exact fun H' a s' pa => q _ a (s.trans s') (pa.back s)
    ·have e : headPart held (k :: y) = some (⟨k, 0, []⟩, y) := by
      simp only [headPart]
      rw [if_neg nk, if_neg (by simpa using hk)]
     rw [e] at q
     refine ⟨_, rfl, _, rfl, r, _, _, _, rfl, rfl, SqL.of (s _ _ hx), atI_nat g0', Nat.zero_le _, fun t nt => ?_⟩
     have s1 := s.trans (same_upd (o := .lst []) nt)
     intro a dx nx ndx nex
     obtain ⟨m1, m2⟩ := made_part (A := A) (k := k) (n := 0) (l := []) (t := t) s1 (s.free nt) upd_same nx ndx
     refine ⟨a, dx, t, k, 0, rfl, upd_same, rfl, ?_⟩
     exact q _ a (s1.trans m2) m1
   ·rw [decide_eq_false h2]
    exact neg (.inr (by omega))
end
end WL
set_option Elab.async false
set_option linter.all false
set_option maxRecDepth 100000
set_option maxHeartbeats 2000000
namespace WL
open PySem PySem.Spec PyProof.Rows L2
open Vafmtb (Doc readRow)
def hid2 (H : Hp) (p d : Addr) : Hp := fun b => if b = p ∨ b = d then none else H b
theorem hid2_same {H H' : Hp} {p d : Addr} (s : Same H H') : Same (hid2 H p d) (hid2 H' p d) := fun b o e => by
 unfold hid2 at e ⊢
 by_cases h : b = p ∨ b = d
 ·rw [if_pos h] at e
  cases e
 ·rw [if_neg h] at e ⊢
  exact s _ _ e
theorem hid2_sub {H : Hp} {p d : Addr} : Same (hid2 H p d) H := fun b o e => by
 unfold hid2 at e
 by_cases h : b = p ∨ b = d
 ·rw [if_pos h] at e
  cases e
 ·rw [if_neg h] at e
  exact e
theorem hid2_1 {H : Hp} {p d : Addr} {o : HO} : hid2 (upd H p o) p d = hid2 H p d := by
 funext b
 unfold hid2
 by_cases h : b = p ∨ b = d
 ·rw [if_pos h, if_pos h]
 ·rw [if_neg h, if_neg h, upd_ne fun e => h (.inl e)]
theorem hid2_2 {H : Hp} {p d : Addr} {o : HO} : hid2 (upd H d o) p d = hid2 H p d := by
 funext b
 unfold hid2
 by_cases h : b = p ∨ b = d
 ·rw [if_pos h, if_pos h]
 ·rw [if_neg h, if_neg h, upd_ne fun e => h (.inr e)]
theorem PartNew.mono {A : Ad} {H H' H2 : Hp} {a : Addr} {p : RawP} (h : PartNew A H H' a p) (s : Same H' H2) : PartNew A H H2 a p := by
 obtain ⟨dx, t, h1, h2, h3, h4⟩ := h
 exact ⟨dx, t, s _ _ h1, s _ _ h2, h3, h4⟩
theorem PartNew.at_ {A : Ad} {H H' : Hp} {a : Addr} {p : RawP} (h : PartNew A H H' a p) : PartAt A H' a p := by
 obtain ⟨dx, t, h1, h2, _⟩ := h
 exact ⟨dx, t, h1, h2⟩
theorem PartNew.hidN {A : Ad} {H H1 H' : Hp} {a p d : Addr} {r : RawP} {o u : HO} (h : PartNew A H1 H' a r) (s : Same H H1) (hp : H1 p = some o) (hd : H1 d = some u) : PartNew A H (hid2 H' p d) a r := by
 obtain ⟨dx, t, h1, h2, h3, h4⟩ := h
 have na : ¬ (a = p ∨ a = d) := by
  intro z
  rcases z with z | z
  ·exact ne_of_none hp h3 z.symm
  ·exact ne_of_none hd h3 z.symm
 have nt : ¬ (t = p ∨ t = d) := by
  intro z
  rcases z with z | z
  ·exact ne_of_none hp h4 z.symm
  ·exact ne_of_none hd h4 z.symm
 refine ⟨dx, t, ?_, ?_, s.free h3, s.free h4⟩
 ·unfold hid2
  rw [if_neg na]
  exact h1
 ·unfold hid2
  rw [if_neg nt]
  exact h2
def dueV (due : List Nat) : List Int := due.reverse.map fun (n : Nat) => (n : Int)
theorem dueV_cons (n : Nat) (s : List Nat) : dueV (n :: s) = dueV s ++ [(n : Int)] := by
 unfold dueV
 rw [List.reverse_cons, List.map_append]
 rfl
def RowRes (A : Ad) (H : Hp) (ds : List Doc) (x : List Int) (Q : VK) : Prop := match readRow ds x with
 | none => ∀ H', Same H H' → Q .non H'
 | some d => ∀ H' l ps, H l = none → Same H H' → ListIn (fun a p => PartNew A H H' a p) H' l ps → NamesOk ds.length ps → spell ds ps = (subs d).map raw → (∀ p ∈ ps, PartGood p) → Q (.ref l) H'
def sp_read_parts (A : Ad) : Sp := fun vs H Q _ => ∃ (r : Addr) (x : List Int) (ds : List Doc), vs = [.ref r, .int ds.length] ∧ H r = some (.lst (intsV x)) ∧ x.length ≤ 3000 ∧ RowRes A H ds x Q
structure RdInv (A : Ad) (H H' : Hp) (pl dl : Addr) (ds : List Doc) (x : List Int) (place : Nat) (due : List Nat) (ps : List RawP) : Prop where
 same : Same H H'
 parts : ∃ as : List Addr, H' pl = some (.lst (as.map V.ref)) ∧ Paired (fun a p => PartNew A H (hid2 H' pl dl) a p) as ps
 dueAt : H' dl = some (.lst (intsV (dueV due)))
 le : place ≤ x.length
 few : ps.length ≤ place
 deep : due.length ≤ 41
 eq : (restP ds due (x.drop place)).map (fun q => spell ds ps ++ q) = (readRow ds x).map fun d => (subs d).map raw
 names : NamesOk ds.length ps
 good : ∀ p ∈ ps, PartGood p
section
variable {P : Program} {w : World} {K : PySem.W.Frag} {mg : Str → Option Value} {base : Heap} {A : Ad}
theorem RdInv.none_of {H H' : Hp} {pl dl : Addr} {ds : List Doc} {x : List Int} {place : Nat} {due : List Nat} {ps : List RawP} {Q : VK} (I : RdInv A H H' pl dl ds x place due ps) (h : restP ds due (x.drop place) = none) (q : RowRes A H ds x Q) {H2 : Hp} (s : Same H' H2) : Q .non H2 := by
 have e := I.eq
 rw [h] at e
 unfold RowRes at q
 cases hr : readRow ds x with
 | none =>
  rw [hr] at q
  exact q _ (I.same.trans s)
 | some d =>
  rw [hr] at e
  cases e
theorem ok_read_parts (T : Tx A K mg) : FnOk P w K mg base CX0 5 A.f_read_parts A.fd_read_parts ["row", "held"] (sp_read_parts A) := by
 have nd := sc_read_parts.nd
 refine T.F_read_parts.ok sc_read_parts (fun vs H Q E h => ?_) (fun cdv Ar outer s H vs Q E hr h => ?_)
 ·obtain ⟨r, x, ds, rfl, _⟩ := h
  rfl
 ·obtain ⟨r, x, ds, rfl, hx, lx, q⟩ := h
  refine ⟨_, (pss_cons (ps_set (i := 2) nd rfl (by first | exact Or.inl rfl | exact Or.inr rfl) (pe_lst pa_nil)) (pss_cons (ps_set (i := 3) nd rfl (by first | exact Or.inl rfl | exact Or.inr rfl) pe_int) (pss_cons (ps_set (i := 4) nd rfl (by first | exact Or.inl rfl | exact Or.inr rfl) (pe_lst (pa_cons pe_int pa_nil))) (pss_cons (ps_while PassesOwn.never (pt_truth (pv 4) (fun _ => rfl)) (pss_cons (ps_if (pt_cmpR op_eq (pe_ix ix_list (pv 4) (pe_un un_neg pe_int) (fun _ _ => rfl)) pe_int (nomark _)) (pss_cons (ps_expr (pe_bm0 PySem.F.plainAttrs_list PySem.F.slot_list_pop PySem.F.type_list_pop mt_pop (pv 4))) (pss_one ps_continue)) pss_nil) (pss_cons (ps_set (i := 5) nd rfl (by first | exact Or.inl rfl | exact Or.inr rfl) (pe_call (ok_read_part T) (hr.mono (by decide)) rfl T.mg_read_part T.kp_read_part T.b_read_part .nil pass0 (pa_cons (pv 0) (pa_cons (pv 3) (pa_cons (pv 1) pa_nil))))) (pss_cons (ps_if (PW.pt (pw_or (pt_cmpR op_isN (pv 5) pe_non (nomark _)) (pw_or1 (pt_cmpR op_gt (pe_op op_sub (pe_callB call_lenR rfl T.b_len PySem.boot_len (pa_cons (pv 4) pa_nil)) pe_int) (pe_gint rfl T.c_MOST_OUTER) (nomark _))))) (pss_one (ps_ret pe_non)) pss_nil) (pss_cons (ps_augS (pv 4) (pe_un un_neg pe_int) get_list pe_int ip_sub set_list) (pss_cons (ps_expr (pe_bm PySem.F.plainAttrs_list PySem.F.slot_list_append PySem.F.type_list_append mt_append (pv 4) (pa_cons (pe_call (ok_count_inner T) (hr.mono (by decide)) rfl T.mg_count_inner T.kp_count_inner T.b_count_inner .nil pass0 (pa_cons (pv 5) pa_nil)) pa_nil))) (pss_cons (ps_expr (pe_bm PySem.F.plainAttrs_list PySem.F.slot_list_append PySem.F.type_list_append mt_append (pv 2) (pa_cons (pv 5) pa_nil))) (pss_one (ps_aug (i := 3) nd rfl (by first | exact Or.inl rfl | exact Or.inr rfl) (pe_callB call_lenR rfl T.b_len PySem.boot_len (pa_cons (pe_call (ok_numbers_of T) (hr.mono (by decide)) rfl T.mg_numbers_of T.kp_numbers_of T.b_numbers_of .nil pass0 (pa_cons (pv 5) pa_nil)) pa_nil)) ip_add))))))))) (pss_one (ps_ret (pe_ifExp (pt_cmpR op_eq (pv 3) (pe_callB call_lenR rfl T.b_len PySem.boot_len (pa_cons (pv 0) pa_nil)) (nomark _)) (pv 2) pe_non))))))), ?_⟩
  refine ⟨Nat.zero_le _, fun pl npl => ⟨(by show 1 ≤ sizeLine; decide), fun dl ndl => ?_⟩⟩
  have s1 := same_upd (o := .lst []) npl
  have s2 := s1.trans (same_upd (o := .lst [.int 1]) ndl)
  have ndl0 := s1.free ndl
  have npd : pl ≠ dl := ne_of_none (H := upd H pl (.lst [])) upd_same ndl
  have I0 : RdInv A H (upd (upd H pl (.lst [])) dl (.lst [.int 1])) pl dl ds x 0 [1] [] := by
   refine ⟨s2, ⟨[], ?_, .nil⟩, upd_same, Nat.zero_le _, Nat.le_refl _, (by show 1 ≤ 41; decide), ?_, fun p hp => (by cases hp), fun p hp => (by cases hp)⟩
   ·rw [upd_ne npd, upd_same]
    rfl
   ·show (restP ds [1] x).map (fun q => [] ++ q) = _
    rw [← restP_start]
    cases restP ds [1] x <;> rfl
  refine ⟨fun m σ H' => ∃ place due ps v, m = 2 * (x.length - place) + due.length ∧ σ = [some (.ref r), some (.int ds.length), some (.ref pl), some (.int (place : Nat)), some (.ref dl), v] ∧ RdInv A H H' pl dl ds x place due ps, ⟨_, 0, [1], [], none, rfl, rfl, I0⟩, ?_⟩
  rintro m σ H' ⟨place, due, ps, v, rfl, rfl, I⟩
  refine ⟨_, rfl, _, .inl ⟨_, SqL.of I.dueAt, rfl⟩, ?_⟩
  cases due with
  | nil =>
   refine iteF ?_
   refine ⟨_, rfl, _, rfl, r, _, rfl, .inl (SqL.of (I.same _ _ hx)), rfl, _, rfl, ?_⟩
   rw [intsV_length]
   have hle := I.le
   refine ite_eqI (fun hk => ?_) (fun hk => ?_)
   ·have e1 : x.drop place = [] := List.drop_eq_nil_of_le (by omega)
    have e := I.eq
    rw [e1] at e
    have e' : some (spell ds ps ++ []) = (readRow ds x).map fun d => (subs d).map raw := e
    rw [List.append_nil] at e'
    obtain ⟨d, hr1, hr2⟩ := map_some e'.symm
    unfold RowRes at q
    rw [hr1] at q
    obtain ⟨as, h1, h2⟩ := I.parts
    exact ⟨_, rfl, q H' pl ps npl I.same ⟨as, h1, Paired.mapP h2 fun _ _ z => z.mono hid2_sub⟩ I.names hr2.symm I.good⟩
   ·refine I.none_of ?_ q (.refl _)
    show (if x.drop place = [] then some [] else none) = none
    rw [if_neg]
    intro z
    have := List.drop_eq_nil_iff.mp z
    omega
  | cons n s =>
   have ed := dueV_cons n s
   have hdue := I.dueAt
   rw [ed, intsV_append] at hdue
   have ne : (!(intsV (dueV (n :: s))).isEmpty) = true := by
    rw [ed, intsV_append]
    cases intsV (dueV s) <;> rfl
   rw [ne]
   refine iteT ⟨_, fun _ _ h => h, ?_⟩
   refine ⟨_, rfl, _, rfl, dl, _, _, _, rfl, rfl, SqL.of hdue, atI_last _ _, rfl, _, rfl, ?_⟩
   cases n with
   | zero =>
    refine ite_eqI (fun _ => ?_) (fun hne => absurd rfl hne)
    refine ⟨_, rfl, .inl ⟨rfl, _, SqL.of hdue⟩, dl, _, _, rfl, rfl, hdue, by rw [List.length_append]; exact List.getElem?_concat_length, ?_⟩
    refine ⟨_, ?_, place, s, ps, v, rfl, rfl, ?_⟩
    ·show 2 * (x.length - place) + s.length < 2 * (x.length - place) + (s.length + 1)
     omega
    ·obtain ⟨as, h1, h2⟩ := I.parts
     have hdp := I.deep
     have e := I.eq
     rw [restP_zero] at e
     refine ⟨I.same.wr ndl0, ⟨as, ?_, ?_⟩, ?_, I.le, I.few, by rw [List.length_cons] at hdp; omega, e, I.names, I.good⟩
     ·rw [upd_ne npd]
      exact h1
     ·rw [hid2_2]
      exact h2
     ·rw [upd_same]
      show some (HO.lst (intsV (dueV s) ++ [V.int 0]).dropLast) = _
      rw [List.dropLast_concat]
   | succ n =>
    refine ite_eqI (fun he => absurd he (by show ¬ ((n + 1 : Nat) : Int) = 0; omega)) (fun _ => ?_)
    refine ⟨_, rfl, _, rfl, _, rfl, r, x, place, ds.length, rfl, I.same _ _ hx, I.le, ?_⟩
    have hdp := I.deep
    rw [List.length_cons] at hdp
    have hstep := restP_step ds n s (x.drop place)
    cases hp : headPart ds.length (x.drop place) with
    | none =>
     intro H2 s2
     refine ⟨_, rfl, rfl, _, rfl, iteT ?_⟩
     refine I.none_of ?_ q s2
     by_cases hs : s.length ≤ 39
     ·rw [hstep hs, hp]
     ·exact restP_deep (by omega)
    | some pz =>
     obtain ⟨p, z⟩ := pz
     intro H2 a s2 hnew
     have hok := headPart_ok hp
     refine ⟨_, rfl, rfl, _, rfl, iteF ?_⟩
     have hdue2 := s2 _ _ hdue
     refine ⟨_, rfl, dl, _, rfl, .inl (SqL.of hdue2), _, _, rfl, rfl, _, _, rfl, rfl, _, rfl, ?_⟩
     have ell : (intsV (dueV s) ++ intsV [((n + 1 : Nat) : Int)]).length = s.length + 1 := by
      rw [List.length_append, intsV_length, intsV_length, dueV, List.length_map, List.length_reverse]
      rfl
     rw [ell]
     refine ite_dec (fun hk => ?_) (fun hk => ?_)
     ·exact I.none_of (restP_deep (by omega)) q s2
     have hs : s.length ≤ 39 := by omega
     obtain ⟨as, h1, h2⟩ := I.parts
     have hpa : PartNew A H (hid2 H2 pl dl) a p := hnew.hidN I.same h1 I.dueAt
     have h2' : Paired (fun a p => PartNew A H (hid2 H2 pl dl) a p) as ps := Paired.mapP h2 fun _ _ z => z.mono (hid2_same s2)
     have h1' := s2 _ _ h1
     have las := Paired.length h2
     have hfew := I.few
     have hle := I.le
     refine ⟨_, rfl, _, rfl, dl, _, _, _, rfl, rfl, SqL.of hdue2, atI_last _ _, _, _, rfl, rfl, dl, _, _, s.length, rfl, rfl, hdue2, ?_, ?_⟩
     ·rw [ell]
      unfold ixN
      rw [if_neg (by decide), if_pos (by omega)]
      congr 1
      omega
     have ls : (intsV (dueV s)).length = s.length := by rw [intsV_length, dueV, List.length_map, List.length_reverse]
     have eset : (intsV (dueV s) ++ intsV [((n + 1 : Nat) : Int)]).set s.length (.int (((n + 1 : Nat) : Int) - 1)) = intsV (dueV (n :: s)) := by
      rw [List.set_append_right _ _ (by omega), ls, Nat.sub_self, dueV_cons, intsV_append, show ((n + 1 : Nat) : Int) - 1 = (n : Int) by omega]
      rfl
     dsimp only
     rw [eset]
     obtain ⟨H3, eH3⟩ : ∃ H3, H3 = upd H2 dl (.lst (intsV (dueV (n :: s)))) := ⟨_, rfl⟩
     rw [← eH3]
     have b3 : Same H H3 := by
      rw [eH3]
      exact (I.same.trans s2).wr ndl0
     have d3 : H3 dl = some (.lst (intsV (dueV (n :: s)))) := by rw [eH3, upd_same]
     have p3 : H3 pl = some (.lst (as.map V.ref)) := by rw [eH3, upd_ne npd]; exact h1'
     have k3 : hid2 H3 pl dl = hid2 H2 pl dl := by rw [eH3, hid2_2]
     rw [← k3] at hpa h2'
     refine ⟨_, rfl, .inl ⟨rfl, _, SqL.of d3⟩, _, rfl, a, p, rfl, (hpa.mono hid2_sub).at_, fun H4 s4 => ?_⟩
     refine ⟨dl, _, _, rfl, rfl, s4 _ _ d3, ?_, ?_⟩
     ·rw [intsV_length, dueV, List.length_map, List.length_reverse, List.length_cons]
      exact Nat.lt_of_lt_of_le (m := 1000) (by omega) (line_le (by omega))
     have edue : intsV (dueV (n :: s)) ++ [.int (inner p)] = intsV (dueV ((inner p).toNat :: n :: s)) := by
      rw [dueV_cons (inner p).toNat, intsV_append, show (((inner p).toNat : Nat) : Int) = inner p by have := hok.inn; omega]
      rfl
     rw [edue]
     obtain ⟨H5, eH5⟩ : ∃ H5, H5 = upd H4 dl (.lst (intsV (dueV ((inner p).toNat :: n :: s)))) := ⟨_, rfl⟩
     rw [← eH5]
     have b5 : Same H H5 := by
      rw [eH5]
      exact (b3.trans s4).wr ndl0
     have d5 : H5 dl = some (.lst (intsV (dueV ((inner p).toNat :: n :: s)))) := by rw [eH5, upd_same]
     have p5 : H5 pl = some (.lst (as.map V.ref)) := by rw [eH5, upd_ne npd]; exact s4 _ _ p3
     have k5 : Same (hid2 H3 pl dl) (hid2 H5 pl dl) := by rw [eH5, hid2_2]; exact hid2_same s4
     refine ⟨_, rfl, .inl ⟨rfl, _, SqL.of p5⟩, _, rfl, pl, _, _, rfl, rfl, p5, ?_, ?_⟩
     ·rw [List.length_map, las]
      exact Nat.lt_of_lt_of_le (m := 10000) (by omega) (line_le (by omega))
     have eas : as.map V.ref ++ [.ref a] = (as ++ [a]).map V.ref := by rw [List.map_append]; rfl
     rw [eas]
     obtain ⟨H6, eH6⟩ : ∃ H6, H6 = upd H5 pl (.lst ((as ++ [a]).map V.ref)) := ⟨_, rfl⟩
     rw [← eH6]
     have b6 : Same H H6 := by
      rw [eH6]
      exact b5.wr npl
     have d6 : H6 dl = some (.lst (intsV (dueV ((inner p).toNat :: n :: s)))) := by rw [eH6, upd_ne npd.symm]; exact d5
     have p6 : H6 pl = some (.lst ((as ++ [a]).map V.ref)) := by rw [eH6, upd_same]
     have k6 : Same (hid2 H3 pl dl) (hid2 H6 pl dl) := by rw [eH6, hid2_1]; exact k5
     refine ⟨_, rfl, _, rfl, a, p, rfl, ((hpa.mono k6).mono hid2_sub).at_, by have := hok.text; omega, fun H7 l nl s7 hl => ?_⟩
     refine ⟨l, _, rfl, .inl (SqL.of hl), _, _, rfl, rfl, ?_⟩
     have hz := hok.rest
     have hzl := hok.le
     have hzp := hok.pos
     rw [List.length_drop] at hzl
     rw [List.drop_drop] at hz
     refine ⟨_, ?_, place + (numbersOf p).length, (inner p).toNat :: n :: s, ps ++ [p], some (.ref a), rfl, ?_, ?_⟩
     ·show 2 * (x.length - (place + (numbersOf p).length)) + (s.length + 1 + 1) < 2 * (x.length - place) + (s.length + 1)
      omega
     ·rw [intsV_length, show ((place + (numbersOf p).length : Nat) : Int) = (place : Int) + ((numbersOf p).length : Int) by omega]
      rfl
     ·refine ⟨b6.trans s7, ⟨as ++ [a], s7 _ _ p6, ?_⟩, s7 _ _ d6, by omega, ?_, ?_, ?_, ?_, ?_⟩
      ·refine paired_append (Paired.mapP h2' fun _ _ y => y.mono (k6.trans (hid2_same s7))) (.cons (hpa.mono (k6.trans (hid2_same s7))) .nil)
      ·rw [List.length_append, List.length_singleton]
       omega
      ·show s.length + 1 + 1 ≤ 41
       omega
      ·have e := I.eq
       rw [hstep hs, hp] at e
       simp only at e
       rw [hz] at e
       rw [← e]
       cases restP ds ((inner p).toNat :: n :: s) (x.drop (place + (numbersOf p).length)) with
       | none => rfl
       | some y =>
        show some (spell ds (ps ++ [p]) ++ y) = some (spell ds ps ++ (spell1 ds p ++ y))
        unfold spell
        rw [List.flatMap_append, List.flatMap_cons, List.flatMap_nil, List.append_nil, List.append_assoc]
      ·intro y hy
       rcases List.mem_append.mp hy with hy | hy
       ·exact I.names y hy
       ·rw [List.mem_singleton.mp hy]
        exact hok.name
      ·intro y hy
       rcases List.mem_append.mp hy with hy | hy
       ·exact I.good y hy
       ·rw [List.mem_singleton.mp hy]
        exact hok.good
end
end WL
set_option Elab.async false
set_option linter.all false
set_option maxRecDepth 100000
set_option maxHeartbeats 2000000
namespace WL
open PySem PySem.Spec PyProof.Rows L2
open Vafmtb (Doc Held placeOf blankComes breakComes gapComes heldNumber heldAtOf)
def penF (c h i : Int) : List (Str × V) := [("column", .int c), ("held", .int h), ("held_indent", .int i)]
def penO (A : Ad) (dx : Addr) (c : Nat) (h : Held) : HO := .ins A.C_Pen dx (penF c (heldNumber h) (heldAtOf h))
def But (a : Addr) (H H' : Hp) : Prop := ∀ b o, H b = some o → b ≠ a → H' b = some o
theorem But.refl (a : Addr) (H : Hp) : But a H H := fun _ _ h _ => h
theorem But.upd (a : Addr) (H : Hp) (o : HO) : But a H (upd H a o) := fun b u e hb => by
 rw [upd_ne hb]
 exact e
theorem But.same {a : Addr} {H0 H H' : Hp} (b : But a H H') (s : Same H0 H) (n : H0 a = none) : Same H0 H' := fun c o e => b c o (s c o e) (ne_of_none e n)
def sp_Pen___init__ (A : Ad) : Sp := fun vs H Q _ => ∃ (a dx : Addr) (c h i : Int), vs = [.ref a, .int c, .int h, .int i] ∧ H a = some (.ins A.C_Pen dx []) ∧ Q .non (upd H a (.ins A.C_Pen dx (penF c h i)))
def sp_Pen_another (A : Ad) : Sp := fun vs H Q _ => ∃ (a dx : Addr) (c : Nat) (h : Held), vs = [.ref a] ∧ H a = some (penO A dx c h) ∧ ∀ H' b dx', H b = none → Same H H' → H' b = some (penO A dx' c h) → Q (.ref b) H'
def sp_Pen_hold (A : Ad) : Sp := fun vs H Q _ => ∃ (a dx : Addr) (c h0 i0 h i : Int), vs = [.ref a, .int h, .int i] ∧ H a = some (.ins A.C_Pen dx (penF c h0 i0)) ∧ Q .non (upd H a (.ins A.C_Pen dx (penF c h i)))
def PenTo (A : Ad) (a dx : Addr) (H : Hp) (c : Nat) (h : Held) (Q : VK) : Prop := ∀ H', H' a = some (penO A dx c h) → But a H H' → Q .non H'
def sp_Pen_take_blank (A : Ad) : Sp := fun vs H Q _ => ∃ (a dx : Addr) (c : Nat) (h : Held), vs = [.ref a] ∧ H a = some (penO A dx c h) ∧ PenTo A a dx H c (blankComes c h) Q
def sp_Pen_take_break (A : Ad) : Sp := fun vs H Q _ => ∃ (a dx : Addr) (c i : Nat) (h : Held), vs = [.ref a, .int i] ∧ H a = some (penO A dx c h) ∧ PenTo A a dx H c (breakComes c i h) Q
def sp_Pen_take_gap (A : Ad) : Sp := fun vs H Q _ => ∃ (a dx : Addr) (c i : Nat) (h : Held), vs = [.ref a, .int i] ∧ H a = some (penO A dx c h) ∧ PenTo A a dx H c (gapComes c i h) Q
def sp_Pen_take_text (A : Ad) : Sp := fun vs H Q _ => ∃ (a dx : Addr) (c n : Nat) (h : Held), vs = [.ref a, .int n] ∧ H a = some (penO A dx c h) ∧ PenTo A a dx H (placeOf c h + n) .nothing Q
def sp_Pen_text_column (A : Ad) : Sp := fun vs H Q _ => ∃ (a dx : Addr) (c : Nat) (h : Held), vs = [.ref a] ∧ H a = some (penO A dx c h) ∧ Q (.int (placeOf c h)) H
def heldBytes : Held → List Int
 | .nothing => []
 | .blank => [32]
 | .newline i => 10 :: List.replicate i 32
 | .empty i => 10 :: 10 :: List.replicate i 32
def sp_Pen_held_breaks (A : Ad) : Sp := fun vs H Q _ => ∃ (a dx : Addr) (c : Nat) (h : Held), vs = [.ref a] ∧ H a = some (penO A dx c h) ∧ Q (.int (breaksOf h)) H
def sp_Pen_held_bytes (A : Ad) : Sp := fun vs H Q _ => ∃ (a dx : Addr) (c : Nat) (h : Held), vs = [.ref a] ∧ H a = some (penO A dx c h) ∧ heldAtOf h ≤ 100000 ∧ NewInts H (heldBytes h) Q
section
variable {P : Program} {w : World} {K : PySem.W.Frag} {mg : Str → Option Value} {base : Heap} {A : Ad}
theorem ok_Pen___init__ (T : Tx A K mg) : FnOk P w K mg base CX0 1 A.f_Pen___init__ A.fd_Pen___init__ ["self", "column", "held", "held_indent"] (sp_Pen___init__ A) := by
 have nd := sc_Pen___init__.nd
 refine T.F_Pen___init__.ok sc_Pen___init__ (fun vs H Q E h => ?_) (fun cdv Ar outer s H vs Q E hr h => ?_)
 ·obtain ⟨a, dx, c, h, i, rfl, _⟩ := h
  rfl
 ·obtain ⟨a, dx, c, h, i, rfl, ha, q⟩ := h
  refine ⟨_, (pss_cons (ps_fld (pv 0) (pv 1) rfl) (pss_cons (ps_fld (pv 0) (pv 2) rfl) (pss_one (ps_fld (pv 0) (pv 3) rfl)))), ?_⟩
  refine ⟨_, rfl, _, rfl, a, _, dx, _, rfl, ha, T.cl_Pen, T.n_Pen_column, (by show 0 < 1000; decide), ?_⟩
  refine ⟨_, rfl, _, rfl, a, _, dx, _, rfl, upd_same, T.cl_Pen, T.n_Pen_held, (by show 1 < 1000; decide), ?_⟩
  rw [upd_upd]
  refine ⟨_, rfl, _, rfl, a, _, dx, _, rfl, upd_same, T.cl_Pen, T.n_Pen_held_indent, (by show 2 < 1000; decide), ?_⟩
  rw [upd_upd]
  exact q
theorem ok_Pen_another (T : Tx A K mg) : FnOk P w K mg base CX0 3 A.f_Pen_another A.fd_Pen_another ["self"] (sp_Pen_another A) := by
 have nd := sc_Pen_another.nd
 refine T.F_Pen_another.ok sc_Pen_another (fun vs H Q E h => ?_) (fun cdv Ar outer s H vs Q E hr h => ?_)
 ·obtain ⟨a, dx, c, h, rfl, _⟩ := h
  rfl
 ·obtain ⟨a, dx, c, h, rfl, ha, q⟩ := h
  refine ⟨_, (pss_one (ps_ret (pe_make T.k_Pen (ok_Pen___init__ T) (hr.mono (by decide)) rfl T.mg_Pen T.b_Pen___init__ .nil pass0 (pa_cons (pe_fld (pv 0) rfl) (pa_cons (pe_fld (pv 0) rfl) (pa_cons (pe_fld (pv 0) rfl) pa_nil)))))), ?_⟩
  refine ⟨_, rfl, a, _, dx, _, _, rfl, ha, T.cl_Pen, T.n_Pen_column, rfl, _, rfl, a, _, dx, _, _, rfl, ha, T.cl_Pen, T.n_Pen_held, rfl, _, rfl, a, _, dx, _, _, rfl, ha, T.cl_Pen, T.n_Pen_held_indent, rfl, ?_⟩
  intro b db nb ndb neb
  refine ⟨b, db, _, _, _, rfl, upd_same, rfl, ?_⟩
  refine q _ b db nb (fun e o z => ?_) upd_same
  rw [upd_ne (ne_of_none z nb), upd_ne (ne_of_none z nb), upd_ne (ne_of_none z ndb)]
  exact z
theorem ok_Pen_hold (T : Tx A K mg) : FnOk P w K mg base CX0 1 A.f_Pen_hold A.fd_Pen_hold ["self", "held", "indent"] (sp_Pen_hold A) := by
 have nd := sc_Pen_hold.nd
 refine T.F_Pen_hold.ok sc_Pen_hold (fun vs H Q E h => ?_) (fun cdv Ar outer s H vs Q E hr h => ?_)
 ·obtain ⟨a, dx, c, h0, i0, h, i, rfl, _⟩ := h
  rfl
 ·obtain ⟨a, dx, c, h0, i0, h, i, rfl, ha, q⟩ := h
  refine ⟨_, (pss_cons (ps_fld (pv 0) (pv 1) rfl) (pss_one (ps_fld (pv 0) (pv 2) rfl))), ?_⟩
  refine ⟨_, rfl, _, rfl, a, _, dx, _, rfl, ha, T.cl_Pen, T.n_Pen_held, (by show 3 < 1000; decide), ?_⟩
  refine ⟨_, rfl, _, rfl, a, _, dx, _, rfl, upd_same, T.cl_Pen, T.n_Pen_held_indent, (by show 3 < 1000; decide), ?_⟩
  rw [upd_upd]
  exact q
theorem ok_Pen_take_blank (T : Tx A K mg) : FnOk P w K mg base CX0 2 A.f_Pen_take_blank A.fd_Pen_take_blank ["self"] (sp_Pen_take_blank A) := by
 have nd := sc_Pen_take_blank.nd
 refine T.F_Pen_take_blank.ok sc_Pen_take_blank (fun vs H Q E h => ?_) (fun cdv Ar outer s H vs Q E hr h => ?_)
 ·obtain ⟨a, dx, c, h, rfl, _⟩ := h
  rfl
 ·obtain ⟨a, dx, c, h, rfl, ha, q⟩ := h
  refine ⟨_, (pss_one (ps_if (PW.pt (pw_and (pt_cmpR op_eq (pe_fld (pv 0) rfl) (pe_gint rfl T.c_HELD_NOTHING) (nomark _)) (pw_and1 (pt_cmpR op_ne (pe_fld (pv 0) rfl) pe_int (nomark _))))) (pss_one (ps_expr (pe_meth (pv 0) T.cl_Pen T.m_Pen_hold (ok_Pen_hold T) (hr.mono (by decide)) T.b_Pen_hold .nil pass0 (pa_cons (pe_gint rfl T.c_HELD_BLANK) (pa_cons pe_int pa_nil))))) pss_nil)), ?_⟩
  refine ⟨_, rfl, a, _, dx, _, _, rfl, ha, T.cl_Pen, T.n_Pen_held, rfl, rfl, _, rfl, ?_⟩
  have keep : blankComes c h = h → Q .non H := fun e => by
   rw [e] at q
   exact q H ha (.refl _ _)
  refine ite_eqI (fun hk => ?_) (fun hk => ?_)
  ·have hn : h = .nothing := by cases h <;> first | rfl | (cases hk)
   subst hn
   refine ⟨_, rfl, a, _, dx, _, _, rfl, ha, T.cl_Pen, T.n_Pen_column, rfl, rfl, _, rfl, ?_⟩
   by_cases hc : c = 0
   ·subst hc
    exact iteNS rfl (keep rfl)
   ·refine iteNE (by omega) ?_
    refine ⟨_, rfl, a, dx, _, rfl, ha, rfl, a, dx, _, _, _, _, _, rfl, ha, ?_⟩
    have e : blankComes c .nothing = .blank := if_pos ⟨rfl, hc⟩
    rw [e] at q
    exact q _ upd_same (.upd _ _ _)
  ·refine iteF ?_
   refine keep (if_neg fun z => hk ?_)
   rw [z.1]
   rfl
theorem ok_Pen_take_break (T : Tx A K mg) : FnOk P w K mg base CX0 2 A.f_Pen_take_break A.fd_Pen_take_break ["self", "indent"] (sp_Pen_take_break A) := by
 have nd := sc_Pen_take_break.nd
 refine T.F_Pen_take_break.ok sc_Pen_take_break (fun vs H Q E h => ?_) (fun cdv Ar outer s H vs Q E hr h => ?_)
 ·obtain ⟨a, dx, c, i, h, rfl, _⟩ := h
  rfl
 ·obtain ⟨a, dx, c, i, h, rfl, ha, q⟩ := h
  refine ⟨_, (pss_cons (ps_if (pt_cmpR op_eq (pe_fld (pv 0) rfl) pe_int (nomark _)) (pss_one ps_retN) pss_nil) (pss_one (ps_if (pt_cmpR op_eq (pe_fld (pv 0) rfl) (pe_gint rfl T.c_HELD_EMPTY_LINE) (nomark _)) (pss_one (ps_expr (pe_meth (pv 0) T.cl_Pen T.m_Pen_hold (ok_Pen_hold T) (hr.mono (by decide)) T.b_Pen_hold .nil pass0 (pa_cons (pe_gint rfl T.c_HELD_EMPTY_LINE) (pa_cons (pv 1) pa_nil))))) (pss_one (ps_expr (pe_meth (pv 0) T.cl_Pen T.m_Pen_hold (ok_Pen_hold T) (hr.mono (by decide)) T.b_Pen_hold .nil pass0 (pa_cons (pe_gint rfl T.c_HELD_BREAK) (pa_cons (pv 1) pa_nil)))))))), ?_⟩
  refine ⟨_, rfl, a, _, dx, _, _, rfl, ha, T.cl_Pen, T.n_Pen_column, rfl, rfl, _, rfl, ite_eqI (fun hk => ?_) (fun hk => ?_)⟩
  ·have e : breakComes c i h = h := if_pos (by omega)
   rw [e] at q
   exact q H ha (.refl _ _)
  ·have hc : ¬ c = 0 := by omega
   refine ⟨_, rfl, a, _, dx, _, _, rfl, ha, T.cl_Pen, T.n_Pen_held, rfl, rfl, _, rfl, ite_eqI (fun hk2 => ?_) (fun hk2 => ?_)⟩
   ·obtain ⟨j, hj⟩ : ∃ j, h = .empty j := by
     cases h with
     | empty j => exact ⟨j, rfl⟩
     | _ => cases hk2
    subst hj
    refine ⟨_, rfl, a, dx, _, rfl, ha, rfl, _, rfl, a, dx, _, _, _, _, _, rfl, ha, ?_⟩
    have e : breakComes c i (.empty j) = .empty i := if_neg hc
    rw [e] at q
    exact q _ upd_same (.upd _ _ _)
   ·refine ⟨_, rfl, a, dx, _, rfl, ha, rfl, _, rfl, a, dx, _, _, _, _, _, rfl, ha, ?_⟩
    have e : breakComes c i h = .newline i := by
     refine (if_neg hc).trans ?_
     cases h with
     | empty j => exact absurd rfl hk2
     | _ => rfl
    rw [e] at q
    exact q _ upd_same (.upd _ _ _)
theorem ok_Pen_take_gap (T : Tx A K mg) : FnOk P w K mg base CX0 2 A.f_Pen_take_gap A.fd_Pen_take_gap ["self", "indent"] (sp_Pen_take_gap A) := by
 have nd := sc_Pen_take_gap.nd
 refine T.F_Pen_take_gap.ok sc_Pen_take_gap (fun vs H Q E h => ?_) (fun cdv Ar outer s H vs Q E hr h => ?_)
 ·obtain ⟨a, dx, c, i, h, rfl, _⟩ := h
  rfl
 ·obtain ⟨a, dx, c, i, h, rfl, ha, q⟩ := h
  refine ⟨_, (pss_one (ps_if (pt_cmpR op_ne (pe_fld (pv 0) rfl) pe_int (nomark _)) (pss_one (ps_expr (pe_meth (pv 0) T.cl_Pen T.m_Pen_hold (ok_Pen_hold T) (hr.mono (by decide)) T.b_Pen_hold .nil pass0 (pa_cons (pe_gint rfl T.c_HELD_EMPTY_LINE) (pa_cons (pv 1) pa_nil))))) pss_nil)), ?_⟩
  refine ⟨_, rfl, a, _, dx, _, _, rfl, ha, T.cl_Pen, T.n_Pen_column, rfl, rfl, _, rfl, ?_⟩
  by_cases hc : c = 0
  ·subst hc
   have e : gapComes 0 i h = h := if_pos rfl
   rw [e] at q
   exact iteNS rfl (q H ha (.refl _ _))
  ·refine iteNE (by omega) ?_
   refine ⟨_, rfl, a, dx, _, rfl, ha, rfl, _, rfl, a, dx, _, _, _, _, _, rfl, ha, ?_⟩
   have e : gapComes c i h = .empty i := if_neg hc
   rw [e] at q
   exact q _ upd_same (.upd _ _ _)
theorem ok_Pen_text_column (T : Tx A K mg) : FnOk P w K mg base CX0 1 A.f_Pen_text_column A.fd_Pen_text_column ["self"] (sp_Pen_text_column A) := by
 have nd := sc_Pen_text_column.nd
 refine T.F_Pen_text_column.ok sc_Pen_text_column (fun vs H Q E h => ?_) (fun cdv Ar outer s H vs Q E hr h => ?_)
 ·obtain ⟨a, dx, c, h, rfl, _⟩ := h
  rfl
 ·obtain ⟨a, dx, c, h, rfl, ha, q⟩ := h
  refine ⟨_, (pss_cons (ps_if (pt_cmpR op_eq (pe_fld (pv 0) rfl) (pe_gint rfl T.c_HELD_NOTHING) (nomark _)) (pss_one (ps_ret (pe_fld (pv 0) rfl))) pss_nil) (pss_cons (ps_if (pt_cmpR op_eq (pe_fld (pv 0) rfl) (pe_gint rfl T.c_HELD_BLANK) (nomark _)) (pss_one (ps_ret (pe_op op_add (pe_fld (pv 0) rfl) pe_int))) pss_nil) (pss_one (ps_ret (pe_fld (pv 0) rfl))))), ?_⟩
  refine ⟨_, rfl, a, _, dx, _, _, rfl, ha, T.cl_Pen, T.n_Pen_held, rfl, rfl, _, rfl, ite_eqI (fun hk => ?_) (fun hk => ?_)⟩
  ·have hn : h = .nothing := by cases h <;> first | rfl | (cases hk)
   subst hn
   exact ⟨_, rfl, a, _, dx, _, _, rfl, ha, T.cl_Pen, T.n_Pen_column, rfl, q⟩
  refine ⟨_, rfl, a, _, dx, _, _, rfl, ha, T.cl_Pen, T.n_Pen_held, rfl, rfl, _, rfl, ite_eqI (fun hk2 => ?_) (fun hk2 => ?_)⟩
  ·have hn : h = .blank := by cases h <;> first | rfl | (cases hk2)
   subst hn
   refine ⟨_, rfl, a, _, dx, _, _, rfl, ha, T.cl_Pen, T.n_Pen_column, rfl, _, _, rfl, rfl, ?_⟩
   exact q
  ·refine ⟨_, rfl, a, _, dx, _, _, rfl, ha, T.cl_Pen, T.n_Pen_held_indent, rfl, ?_⟩
   cases h with
   | nothing => exact absurd rfl hk
   | blank => exact absurd rfl hk2
   | newline j => exact q
   | empty j => exact q
theorem ok_Pen_take_text (T : Tx A K mg) : FnOk P w K mg base CX0 2 A.f_Pen_take_text A.fd_Pen_take_text ["self", "size"] (sp_Pen_take_text A) := by
 have nd := sc_Pen_take_text.nd
 refine T.F_Pen_take_text.ok sc_Pen_take_text (fun vs H Q E h => ?_) (fun cdv Ar outer s H vs Q E hr h => ?_)
 ·obtain ⟨a, dx, c, n, h, rfl, _⟩ := h
  rfl
 ·obtain ⟨a, dx, c, n, h, rfl, ha, q⟩ := h
  refine ⟨_, (pss_cons (ps_fld (pv 0) (pe_op op_add (pe_meth0 (pv 0) T.cl_Pen T.m_Pen_text_column (ok_Pen_text_column T) (hr.mono (by decide)) T.b_Pen_text_column .nil pass0) (pv 1)) rfl) (pss_one (ps_expr (pe_meth (pv 0) T.cl_Pen T.m_Pen_hold (ok_Pen_hold T) (hr.mono (by decide)) T.b_Pen_hold .nil pass0 (pa_cons (pe_gint rfl T.c_HELD_NOTHING) (pa_cons pe_int pa_nil)))))), ?_⟩
  refine ⟨_, rfl, a, dx, _, rfl, ha, rfl, a, dx, c, h, rfl, ha, _, rfl, _, _, rfl, rfl, _, rfl, a, _, dx, _, rfl, ha, T.cl_Pen, T.n_Pen_column, (by show 3 < 1000; decide), ?_⟩
  refine ⟨_, rfl, a, dx, _, rfl, upd_same, rfl, a, dx, _, _, _, _, _, rfl, upd_same, ?_⟩
  rw [upd_upd]
  exact q _ upd_same (.upd _ _ _)
theorem ok_Pen_held_breaks (T : Tx A K mg) : FnOk P w K mg base CX0 1 A.f_Pen_held_breaks A.fd_Pen_held_breaks ["self"] (sp_Pen_held_breaks A) := by
 have nd := sc_Pen_held_breaks.nd
 refine T.F_Pen_held_breaks.ok sc_Pen_held_breaks (fun vs H Q E h => ?_) (fun cdv Ar outer s H vs Q E hr h => ?_)
 ·obtain ⟨a, dx, c, h, rfl, _⟩ := h
  rfl
 ·obtain ⟨a, dx, c, h, rfl, ha, q⟩ := h
  refine ⟨_, (pss_cons (ps_if (pt_cmpR op_eq (pe_fld (pv 0) rfl) (pe_gint rfl T.c_HELD_EMPTY_LINE) (nomark _)) (pss_one (ps_ret pe_int)) pss_nil) (pss_cons (ps_if (pt_cmpR op_eq (pe_fld (pv 0) rfl) (pe_gint rfl T.c_HELD_BREAK) (nomark _)) (pss_one (ps_ret pe_int)) pss_nil) (pss_one (ps_ret pe_int)))), ?_⟩
  refine ⟨_, rfl, a, _, dx, _, _, rfl, ha, T.cl_Pen, T.n_Pen_held, rfl, rfl, _, rfl, ite_eqI (fun hk => ?_) (fun hk => ?_)⟩
  ·obtain ⟨j, rfl⟩ : ∃ j, h = .empty j := by
    cases h with
    | empty j => exact ⟨j, rfl⟩
    | _ => cases hk
   exact q
  refine ⟨_, rfl, a, _, dx, _, _, rfl, ha, T.cl_Pen, T.n_Pen_held, rfl, rfl, _, rfl, ite_eqI (fun hk2 => ?_) (fun hk2 => ?_)⟩
  ·obtain ⟨j, rfl⟩ : ∃ j, h = .newline j := by
    cases h with
    | newline j => exact ⟨j, rfl⟩
    | _ => cases hk2
   exact q
  ·cases h with
   | nothing => exact q
   | blank => exact q
   | newline j => exact absurd rfl hk2
   | empty j => exact absurd rfl hk
theorem held_parts (h : Held) (hb : h ≠ .blank) : heldBytes h = List.replicate (breaksOf h) 10 ++ List.replicate (heldAtOf h) 32 := by
 cases h with
 | nothing => rfl
 | blank => exact absurd rfl hb
 | newline j => rfl
 | empty j => rfl
theorem ok_Pen_held_bytes (T : Tx A K mg) : FnOk P w K mg base CX0 2 A.f_Pen_held_bytes A.fd_Pen_held_bytes ["self"] (sp_Pen_held_bytes A) := by
 have nd := sc_Pen_held_bytes.nd
 refine T.F_Pen_held_bytes.ok sc_Pen_held_bytes (fun vs H Q E h => ?_) (fun cdv Ar outer s H vs Q E hr h => ?_)
 ·obtain ⟨a, dx, c, h, rfl, _⟩ := h
  rfl
 ·obtain ⟨a, dx, c, h, rfl, ha, hi, q⟩ := h
  refine ⟨_, (pss_cons (ps_if (pt_cmpR op_eq (pe_fld (pv 0) rfl) (pe_gint rfl T.c_HELD_BLANK) (nomark _)) (pss_one (ps_ret (pe_lst (pa_cons (pe_gint rfl T.c_BLANK_BYTE) pa_nil)))) pss_nil) (pss_one (ps_ret (pe_op op_cat (pe_op op_rep (pe_lst (pa_cons (pe_gint rfl T.c_BREAK_BYTE) pa_nil)) (pe_meth0 (pv 0) T.cl_Pen T.m_Pen_held_breaks (ok_Pen_held_breaks T) (hr.mono (by decide)) T.b_Pen_held_breaks .nil pass0)) (pe_op op_rep (pe_lst (pa_cons (pe_gint rfl T.c_BLANK_BYTE) pa_nil)) (pe_fld (pv 0) rfl)))))), ?_⟩
  refine ⟨_, rfl, a, _, dx, _, _, rfl, ha, T.cl_Pen, T.n_Pen_held, rfl, rfl, _, rfl, ite_eqI (fun hk2 => ?_) (fun hk2 => ?_)⟩
  ·have hn : h = .blank := by cases h <;> first | rfl | (cases hk2)
   subst hn
   exact ⟨(by show 1 ≤ sizeLine; decide), fun l hl => q _ l hl (same_upd hl) upd_same⟩
  have hbl : h ≠ .blank := fun z => hk2 (by rw [z]; rfl)
  rw [held_parts h hbl] at q
  have hbr : breaksOf h ≤ 2 := by cases h <;> simp [breaksOf]
  refine ⟨(by show 1 ≤ sizeLine; decide), fun l1 hl1 => ?_⟩
  have s1 := same_upd (o := .lst [.int 10]) hl1
  refine ⟨_, rfl, a, dx, _, rfl, s1 _ _ ha, rfl, a, dx, c, h, rfl, s1 _ _ ha, l1, _, _, rfl, rfl, upd_same, by omega, by omega, ?_, fun l2 hl2 => ?_⟩
  ·rw [Int.toNat_natCast]
   exact line_le (by simp; omega)
  have eb : (List.replicate ((breaksOf h : Nat) : Int).toNat [V.int 10]).flatten = List.replicate (breaksOf h) (.int 10) := by
   rw [Int.toNat_natCast, rep_one]
  rw [eb]
  have s2 := s1.trans (same_upd (o := .lst (List.replicate (breaksOf h) (.int 10))) hl2)
  have h2 : (upd (upd H l1 (.lst [.int 10])) l2 (.lst (List.replicate (breaksOf h) (.int 10)))) l2 = some (.lst (List.replicate (breaksOf h) (.int 10))) := upd_same
  generalize upd (upd H l1 (.lst [.int 10])) l2 (.lst (List.replicate (breaksOf h) (.int 10))) = H2 at s2 h2 ⊢
  refine ⟨(by show 1 ≤ sizeLine; decide), fun l3 hl3 => ?_⟩
  have s3 := same_upd (o := .lst [.int 32]) hl3
  refine ⟨_, rfl, a, _, dx, _, _, rfl, s3 _ _ (s2 _ _ ha), T.cl_Pen, T.n_Pen_held_indent, rfl, l3, _, _, rfl, rfl, upd_same, by omega, by omega, ?_, fun l4 hl4 => ?_⟩
  ·rw [Int.toNat_natCast]
   exact line_le (by simp; omega)
  have eb : (List.replicate ((heldAtOf h : Nat) : Int).toNat [V.int 32]).flatten = List.replicate (heldAtOf h) (.int 32) := by
   rw [Int.toNat_natCast, rep_one]
  rw [eb]
  have s4 := s3.trans (same_upd (o := .lst (List.replicate (heldAtOf h) (.int 32))) hl4)
  refine ⟨l2, l4, _, _, rfl, rfl, s4 _ _ h2, upd_same, ?_, fun l5 hl5 => ?_⟩
  ·rw [List.length_replicate, List.length_replicate]
   exact line_le (by omega)
  refine q _ l5 (s2.free (s4.free hl5)) ((s2.trans s4).trans (same_upd hl5)) ?_
  rw [upd_same]
  unfold intsV
  rw [List.map_append, List.map_replicate, List.map_replicate]
end
end WL
set_option Elab.async false
set_option linter.all false
set_option maxRecDepth 100000
set_option maxHeartbeats 2000000
namespace WL
open PySem PySem.Spec PyProof.Rows L2
open Vafmtb (Doc Held)
abbrev VRow := Vafmtb.Row
def lineF (i l f : Int) : List (Str × V) := [("indent", .int i), ("length", .int l), ("flat_breaks", .int f)]
def linesF (fo : Addr) (wt : Int) : List (Str × V) := [("found", .ref fo), ("waiting", .int wt)]
def LineAt (A : Ad) (H : Hp) (b : Addr) (r : VRow) : Prop := ∃ dx, H b = some (.ins A.C_Line dx (lineF r.ind r.length r.flats))
structure LinesAt (A : Ad) (H : Hp) (ln fo : Addr) (ls : List Addr) (rs : List VRow) (wt : Nat) : Prop where
 at_ : ∃ dn, H ln = some (.ins A.C_Lines dn (linesF fo wt))
 fo_ : H fo = some (.lst (ls.map V.ref))
 ls_ : Paired (fun b r => LineAt A H b r) ls rs
 nd_ : ls.Nodup
theorem ins_ne {C dx C' dx' : Addr} {fs fs' : List (Str × V)} (h : fs.map Prod.fst ≠ fs'.map Prod.fst) : HO.ins C dx fs ≠ HO.ins C' dx' fs' := by
 intro z
 have e : fs = fs' := by injection z
 exact h (congrArg (List.map Prod.fst) e)
theorem LinesAt.mono {A : Ad} {H H' : Hp} {ln fo : Addr} {ls : List Addr} {rs : List VRow} {wt : Nat} (L : LinesAt A H ln fo ls rs wt) (s : Same H H') : LinesAt A H' ln fo ls rs wt := by
 obtain ⟨⟨dn, h1⟩, h2, h3, h4⟩ := L
 exact ⟨⟨dn, s _ _ h1⟩, s _ _ h2, Paired.mapP h3 fun b r ⟨dx, e⟩ => ⟨dx, s _ _ e⟩, h4⟩
theorem paired_last {α β : Type} {G : α → β → Prop} : ∀ {as : List α} {bs : List β} {b : β}, Paired G as (bs ++ [b]) → ∃ as' a, as = as' ++ [a] ∧ Paired G as' bs ∧ G a b
 | _, [], _, .cons r .nil => ⟨[], _, rfl, .nil, r⟩
 | _, _ :: bs, _, .cons r t => by
  obtain ⟨as', a, e, h1, h2⟩ := paired_last t
  exact ⟨_ :: as', a, by rw [e]; rfl, .cons r h1, h2⟩
theorem paired_mem {α β : Type} {G F : α → β → Prop} : ∀ {as : List α} {bs : List β}, Paired G as bs → (∀ a b, a ∈ as → G a b → F a b) → Paired F as bs
 | _, _, .nil, _ => .nil
 | _, _, .cons r t, h => .cons (h _ _ (List.mem_cons_self ..) r) (paired_mem t fun a b m => h a b (List.mem_cons_of_mem _ m))
theorem paired_in {α β : Type} {G : α → β → Prop} : ∀ {as : List α} {bs : List β}, Paired G as bs → ∀ a ∈ as, ∃ b, G a b
 | _, _, .nil, _, h => by cases h
 | _, _, .cons r t, a, h => by
  rcases List.mem_cons.mp h with rfl | h
  ·exact ⟨_, r⟩
  ·exact paired_in t a h
theorem LinesAt.app {A : Ad} {H H3 : Hp} {ln fo b db : Addr} {ls : List Addr} {rs : List VRow} {wt i : Nat} (L : LinesAt A H ln fo ls rs wt) (nb : H b = none) (s : Same H H3) (hb : H3 b = some (.ins A.C_Line db (lineF i 0 0))) :
  LinesAt A (upd H3 fo (.lst ((ls ++ [b]).map V.ref))) ln fo (ls ++ [b]) (rs ++ [⟨0, i, 0⟩]) wt := by
 obtain ⟨⟨dn, h1⟩, h2, h3, h4⟩ := L.mono s
 refine ⟨⟨dn, ?_⟩, upd_same, paired_append (Paired.mapP h3 fun c r ⟨dx, e⟩ => ⟨dx, ?_⟩) (.cons ⟨db, ?_⟩ .nil), ?_⟩
 ·rw [upd_ne (ne_of h1 h2 (by intro z; cases z))]
  exact h1
 ·rw [upd_ne (ne_of e h2 (by intro z; cases z))]
  exact e
 ·rw [upd_ne (ne_of hb h2 (by intro z; cases z))]
  exact hb
 ·rw [List.nodup_append]
  refine ⟨L.nd_, (by simp), fun x hx y hy => ?_⟩
  rw [List.mem_singleton.mp hy]
  intro z
  obtain ⟨r, dx, e⟩ := paired_in L.ls_ x hx
  rw [z, nb] at e
  cases e
def sp_Line___init__ (A : Ad) : Sp := fun vs H Q _ => ∃ (a dx : Addr) (i : Int), vs = [.ref a, .int i] ∧ H a = some (.ins A.C_Line dx []) ∧ Q .non (upd H a (.ins A.C_Line dx (lineF i 0 0)))
def sp_Lines___init__ (A : Ad) : Sp := fun vs H Q _ => ∃ (a dx : Addr), vs = [.ref a] ∧ H a = some (.ins A.C_Lines dx []) ∧ ∀ fo, H fo = none → Q .non (upd (upd H fo (.lst [])) a (.ins A.C_Lines dx (linesF fo 0)))
def sp_Lines_take_flat_break (A : Ad) : Sp := fun vs H Q _ => ∃ (a dx fo : Addr) (wt : Nat), vs = [.ref a] ∧ H a = some (.ins A.C_Lines dx (linesF fo wt)) ∧ Q .non (upd H a (.ins A.C_Lines dx (linesF fo ((wt + 1 : Nat) : Int))))
def ButN (ln fo : Addr) (ls : List Addr) (H H' : Hp) : Prop := ∀ b o, H b = some o → b ≠ ln → b ≠ fo → b ∉ ls → H' b = some o
def sp_Lines_take_text (A : Ad) : Sp := fun vs H Q _ => ∃ (ln fo : Addr) (ls : List Addr) (rs : List VRow) (wt br col size : Nat), vs = [.ref ln, .int br, .int col, .int size] ∧ LinesAt A H ln fo ls rs wt ∧ rs.length ≤ 100000 ∧
 ∀ H' ls', LinesAt A H' ln fo ls' (textRows rs wt br col size) 0 → ButN ln fo ls H H' → (∀ b ∈ ls', b ∈ ls ∨ H b = none) → Q .non H'
def sp_Lines_greatest_length (A : Ad) : Sp := fun vs H Q _ => ∃ (ln fo : Addr) (ls : List Addr) (rs : List VRow) (wt : Nat), vs = [.ref ln] ∧ LinesAt A H ln fo ls rs wt ∧ rs.length ≤ 100000 ∧ ∀ H', Same H H' → Q (.int ((rs.foldl (fun (a : Nat) r => max a r.length) 0 : Nat) : Int)) H'
def rowNums (rs : List VRow) : List Int := rs.flatMap fun r => [(r.length : Int), (r.ind : Int), (r.flats : Int)]
def sp_Lines_told_numbers (A : Ad) : Sp := fun vs H Q _ => ∃ (ln fo : Addr) (ls : List Addr) (rs : List VRow) (wt : Nat), vs = [.ref ln] ∧ LinesAt A H ln fo ls rs wt ∧ rs.length ≤ 100000 ∧ NewInts H (rowNums rs) Q
section
variable {P : Program} {w : World} {K : PySem.W.Frag} {mg : Str → Option Value} {base : Heap} {A : Ad}
theorem ok_Line___init__ (T : Tx A K mg) : FnOk P w K mg base CX0 1 A.f_Line___init__ A.fd_Line___init__ ["self", "indent"] (sp_Line___init__ A) := by
 have nd := sc_Line___init__.nd
 refine T.F_Line___init__.ok sc_Line___init__ (fun vs H Q E h => ?_) (fun cdv Ar outer s H vs Q E hr h => ?_)
 ·obtain ⟨a, dx, i, rfl, _⟩ := h
  rfl
 ·obtain ⟨a, dx, i, rfl, ha, q⟩ := h
  refine ⟨_, (pss_cons (ps_fld (pv 0) (pv 1) rfl) (pss_cons (ps_fld (pv 0) pe_int rfl) (pss_one (ps_fld (pv 0) pe_int rfl)))), ?_⟩
  refine ⟨_, rfl, _, rfl, a, _, dx, _, rfl, ha, T.cl_Line, T.n_Line_indent, (by show 0 < 1000; decide), ?_⟩
  refine ⟨_, rfl, a, _, dx, _, rfl, upd_same, T.cl_Line, T.n_Line_length, (by show 1 < 1000; decide), ?_⟩
  rw [upd_upd]
  refine ⟨_, rfl, a, _, dx, _, rfl, upd_same, T.cl_Line, T.n_Line_flat_breaks, (by show 2 < 1000; decide), ?_⟩
  rw [upd_upd]
  exact q
theorem ok_Lines___init__ (T : Tx A K mg) : FnOk P w K mg base CX0 1 A.f_Lines___init__ A.fd_Lines___init__ ["self"] (sp_Lines___init__ A) := by
 have nd := sc_Lines___init__.nd
 refine T.F_Lines___init__.ok sc_Lines___init__ (fun vs H Q E h => ?_) (fun cdv Ar outer s H vs Q E hr h => ?_)
 ·obtain ⟨a, dx, rfl, _⟩ := h
  rfl
 ·obtain ⟨a, dx, rfl, ha, q⟩ := h
  refine ⟨_, (pss_cons (ps_fld (pv 0) (pe_lst pa_nil) rfl) (pss_one (ps_fld (pv 0) pe_int rfl))), ?_⟩
  refine ⟨Nat.zero_le _, fun fo nfo => ?_⟩
  refine ⟨_, rfl, a, _, dx, _, rfl, same_upd nfo _ _ ha, T.cl_Lines, T.n_Lines_found, (by show 0 < 1000; decide), ?_⟩
  refine ⟨_, rfl, a, _, dx, _, rfl, upd_same, T.cl_Lines, T.n_Lines_waiting, (by show 1 < 1000; decide), ?_⟩
  rw [upd_upd]
  exact q fo nfo
theorem ok_Lines_take_flat_break (T : Tx A K mg) : FnOk P w K mg base CX0 1 A.f_Lines_take_flat_break A.fd_Lines_take_flat_break ["self"] (sp_Lines_take_flat_break A) := by
 have nd := sc_Lines_take_flat_break.nd
 refine T.F_Lines_take_flat_break.ok sc_Lines_take_flat_break (fun vs H Q E h => ?_) (fun cdv Ar outer s H vs Q E hr h => ?_)
 ·obtain ⟨a, dx, fo, wt, rfl, _⟩ := h
  rfl
 ·obtain ⟨a, dx, fo, wt, rfl, ha, q⟩ := h
  refine ⟨_, (pss_one (ps_fldaug (pv 0) pe_int in_add)), ?_⟩
  refine ⟨_, rfl, a, _, dx, _, _, rfl, ha, T.cl_Lines, T.n_Lines_waiting, rfl, _, _, rfl, rfl, dx, _, ha, (by show 2 < 1000; decide), ?_⟩
  exact q
theorem ok_Lines_take_text (T : Tx A K mg) : FnOk P w K mg base CX0 3 A.f_Lines_take_text A.fd_Lines_take_text ["self", "breaks", "column", "size"] (sp_Lines_take_text A) := by
 have nd := sc_Lines_take_text.nd
 refine T.F_Lines_take_text.ok sc_Lines_take_text (fun vs H Q E h => ?_) (fun cdv Ar outer s H vs Q E hr h => ?_)
 ·obtain ⟨ln, fo, ls, rs, wt, br, col, size, rfl, _⟩ := h
  rfl
 ·obtain ⟨ln, fo, ls, rs, wt, br, col, size, rfl, L, hlen, q⟩ := h
  have lls : ls.length = rs.length := Paired.length L.ls_
  refine ⟨_, (pss_mid (ps_if (pt_cmpR op_eq (pv 1) pe_int (nomark _)) (pss_one (ps_expr (pe_bm PySem.F.plainAttrs_list PySem.F.slot_list_append PySem.F.type_list_append mt_append (pe_fld (pv 0) rfl) (pa_cons (pe_make T.k_Line (ok_Line___init__ T) (hr.mono (by decide)) rfl T.mg_Line T.b_Line___init__ .nil pass0 (pa_cons pe_int pa_nil)) pa_nil)))) pss_nil) (pss_mid (ps_if (PW.pt (pw_or (pt_cmpR op_gt (pv 1) pe_int (nomark _)) (pw_or1 (pt_not (pt_truth (pe_fld (pv 0) rfl) (fun _ => rfl)))))) (pss_cons (ps_expr (pe_bm PySem.F.plainAttrs_list PySem.F.slot_list_append PySem.F.type_list_append mt_append (pe_fld (pv 0) rfl) (pa_cons (pe_make T.k_Line (ok_Line___init__ T) (hr.mono (by decide)) rfl T.mg_Line T.b_Line___init__ .nil pass0 (pa_cons (pv 2) pa_nil)) pa_nil))) (pss_one (ps_fld (pv 0) pe_int rfl))) pss_nil) (pss_cons (ps_set (i := 4) nd rfl (by first | exact Or.inl rfl | exact Or.inr rfl) (pe_ix ix_list (pe_fld (pv 0) rfl) (pe_un un_neg pe_int) (fun _ _ => rfl))) (pss_cons (ps_fld (pv 4) (pe_op op_add (pv 2) (pv 3)) rfl) (pss_cons (ps_fldaug (pv 4) (pe_fld (pv 0) rfl) in_add) (pss_one (ps_fld (pv 0) pe_int rfl))))))), ?_⟩
  refine ⟨fun σ H1 => ∃ ls1, σ = [some (.ref ln), some (.int br), some (.int col), some (.int size), none] ∧ LinesAt A H1 ln fo ls1 (rs ++ (if br = 2 then [⟨0, 0, 0⟩] else [])) wt ∧ ButN ln fo ls H H1 ∧ (∀ b ∈ ls1, b ∈ ls ∨ H b = none) ∧ ∀ b, H1 b = none → H b = none, ?_, ?_⟩
  ·refine ⟨_, rfl, rfl, _, rfl, ite_eqI (fun hk => ?_) (fun hk => ?_)⟩
   ·have hb2 : br = 2 := by omega
    obtain ⟨⟨dn, hln⟩, hfo, _, _⟩ := L
    refine ⟨_, rfl, ln, _, dn, _, _, rfl, hln, T.cl_Lines, T.n_Lines_found, rfl, .inl ⟨rfl, _, SqL.of hfo⟩, ?_⟩
    intro b db nb ndb neb
    refine ⟨b, db, _, rfl, upd_same, rfl, ?_⟩
    have s3 : Same H (upd (upd (upd H db (.own b)) b (.ins A.C_Line db [])) b (.ins A.C_Line db (lineF 0 0 0))) := fun z o e => by
     rw [upd_ne (ne_of_none e nb), upd_ne (ne_of_none e nb), upd_ne (ne_of_none e ndb)]
     exact e
    have hb3 : (upd (upd (upd H db (.own b)) b (.ins A.C_Line db [])) b (.ins A.C_Line db (lineF 0 0 0))) b = some (.ins A.C_Line db (lineF ((0 : Nat) : Int) 0 0)) := upd_same
    generalize upd (upd (upd H db (.own b)) b (.ins A.C_Line db [])) b (.ins A.C_Line db (lineF 0 0 0)) = H3 at s3 hb3 ⊢
    refine ⟨fo, _, _, rfl, rfl, s3 _ _ hfo, ?_, ?_⟩
    ·rw [List.length_map, lls]
     exact Nat.lt_of_lt_of_le (m := 200000) (by omega) (line_le (by omega))
    have e1 : ls.map V.ref ++ [.ref b] = (ls ++ [b]).map V.ref := by
     rw [List.map_append]
     rfl
    rw [e1]
    refine ⟨ls ++ [b], rfl, ?_, fun z o e h1 h2 h3 => ?_, fun z hz => ?_, fun z hz => ?_⟩
    ·rw [if_pos hb2]
     exact LinesAt.app ⟨⟨dn, hln⟩, hfo, ‹_›, ‹_›⟩ nb s3 hb3
    ·rw [upd_ne h2]
     exact s3 _ _ e
    ·rcases List.mem_append.mp hz with hz | hz
     ·exact .inl hz
     ·rw [List.mem_singleton.mp hz]
      exact .inr nb
    ·by_cases hzf : z = fo
     ·rw [hzf, upd_same] at hz
      cases hz
     ·rw [upd_ne hzf] at hz
      exact s3.free hz
   ·refine ⟨ls, rfl, ?_, fun z o e _ _ _ => e, fun z hz => .inl hz, fun z hz => hz⟩
    rw [if_neg (by omega), List.append_nil]
    exact L
  rintro σ H1 ⟨ls1, rfl, L1, k1, f1, d1⟩
  have hlen1 : (rs ++ (if br = 2 then [(⟨0, 0, 0⟩ : VRow)] else [])).length ≤ 100001 := by
   rw [List.length_append]
   split <;> simp <;> omega
  have lls1 : ls1.length = (rs ++ (if br = 2 then [(⟨0, 0, 0⟩ : VRow)] else [])).length := Paired.length L1.ls_
  refine ⟨fun σ H2 => ∃ ls2 init r wt2, σ = [some (.ref ln), some (.int br), some (.int col), some (.int size), none] ∧ LinesAt A H2 ln fo ls2 (init ++ [r]) wt2 ∧ ButN ln fo ls H H2 ∧ (∀ b ∈ ls2, b ∈ ls ∨ H b = none) ∧ init ++ [⟨col + size, r.ind, r.flats + wt2⟩] = textRows rs wt br col size, ?_, ?_⟩
  ·obtain ⟨⟨dn, hln⟩, hfo, hls1, _⟩ := id L1
   have new : (0 < br ∨ rs = []) → tSeq (tDrop (tBM K "list" rAppend (tFld K (tVar 0) "found") (tCons (tMake A.C_Line (sp_Line___init__ A) [] E0 (tCons (tVar 2) tNil)) tNil))) (sFld K (tVar 0) (tC (.int 0)) "waiting")
     { nx := fun σ H2 => ∃ ls2 init r wt2, σ = [some (.ref ln), some (.int br), some (.int col), some (.int size), none] ∧ LinesAt A H2 ln fo ls2 (init ++ [r]) wt2 ∧ ButN ln fo ls H H2 ∧ (∀ b ∈ ls2, b ∈ ls ∨ H b = none) ∧ init ++ [⟨col + size, r.ind, r.flats + wt2⟩] = textRows rs wt br col size, rt := Q }
     [some (.ref ln), some (.int br), some (.int col), some (.int size), none] H1 := fun hnew => by
    refine ⟨_, rfl, ln, _, dn, _, _, rfl, hln, T.cl_Lines, T.n_Lines_found, rfl, .inl ⟨rfl, _, SqL.of hfo⟩, _, rfl, ?_⟩
    intro b db nb ndb neb
    refine ⟨b, db, _, rfl, upd_same, rfl, ?_⟩
    have s3 : Same H1 (upd (upd (upd H1 db (.own b)) b (.ins A.C_Line db [])) b (.ins A.C_Line db (lineF col 0 0))) := fun z o e => by
     rw [upd_ne (ne_of_none e nb), upd_ne (ne_of_none e nb), upd_ne (ne_of_none e ndb)]
     exact e
    have hb3 : (upd (upd (upd H1 db (.own b)) b (.ins A.C_Line db [])) b (.ins A.C_Line db (lineF col 0 0))) b = some (.ins A.C_Line db (lineF col 0 0)) := upd_same
    generalize upd (upd (upd H1 db (.own b)) b (.ins A.C_Line db [])) b (.ins A.C_Line db (lineF col 0 0)) = H3 at s3 hb3 ⊢
    refine ⟨fo, _, _, rfl, rfl, s3 _ _ hfo, ?_, ?_⟩
    ·rw [List.length_map, lls1]
     exact Nat.lt_of_lt_of_le (m := 200000) (by omega) (line_le (by omega))
    have e1 : ls1.map V.ref ++ [.ref b] = (ls1 ++ [b]).map V.ref := by
     rw [List.map_append]
     rfl
    rw [e1]
    have L3 := L1.app nb s3 hb3
    have k3 : ButN ln fo ls H (upd H3 fo (.lst ((ls1 ++ [b]).map V.ref))) := fun z o e h1 h2 h3 => by
     rw [upd_ne h2]
     exact s3 _ _ (k1 z o e h1 h2 h3)
    have nbH : H b = none := d1 b nb
    have f3 : ∀ z ∈ ls1 ++ [b], z ∈ ls ∨ H z = none := fun z hz => by
     rcases List.mem_append.mp hz with hz | hz
     ·exact f1 z hz
     ·rw [List.mem_singleton.mp hz]
      exact .inr nbH
    obtain ⟨⟨dn3, hln3⟩, hfo3, hls3, hnd3⟩ := id L3
    generalize upd H3 fo (.lst ((ls1 ++ [b]).map V.ref)) = H4 at L3 k3 hln3 hfo3 hls3 ⊢
    refine ⟨_, rfl, ln, _, dn3, _, rfl, hln3, T.cl_Lines, T.n_Lines_waiting, (by show 2 < 1000; decide), ?_⟩
    refine ⟨ls1 ++ [b], rs ++ (if br = 2 then [⟨0, 0, 0⟩] else []), ⟨0, col, 0⟩, 0, rfl, ⟨⟨dn3, upd_same⟩, ?_, Paired.mapP hls3 fun c r ⟨dx, e⟩ => ⟨dx, by
      rw [upd_ne (ne_of e hln3 (ins_ne (by show ¬ ([("indent" : Str), "length", "flat_breaks"] = [("found" : Str), "waiting"]); decide +kernel)))]
      exact e⟩, hnd3⟩, fun z o e h1 h2 h3 => by
      rw [upd_ne h1]
      exact k3 z o e h1 h2 h3, f3, ?_⟩
    ·rw [upd_ne (ne_of hfo3 hln3 (by intro z; cases z))]
     exact hfo3
    ·unfold textRows
     rw [if_pos hnew]
   refine ⟨_, rfl, _, _, rfl, rfl, _, rfl, ite_dec (fun hg => ?_) (fun hg => ?_)⟩
   ·exact iteT (new (.inl (by omega)))
   ·refine ⟨_, rfl, ln, _, dn, _, _, rfl, hln, T.cl_Lines, T.n_Lines_found, rfl, _, .inl ⟨_, SqL.of hfo, rfl⟩, ?_⟩
    have hb0 : br = 0 := by omega
    subst hb0
    rw [if_neg (by decide), List.append_nil] at lls1 L1
    cases hrs : rs with
    | nil =>
     rw [hrs] at lls1
     have : ls1 = [] := List.eq_nil_of_length_eq_zero lls1
     subst this
     exact iteT (hrs ▸ new (.inr hrs))
    | cons r0 rs0 =>
     have hne : rs ≠ [] := by rw [hrs]; exact List.cons_ne_nil _ _
     cases ls1 with
     | nil =>
      rw [hrs] at lls1
      cases lls1
     | cons l0 ls0 =>
      refine iteF ?_
      have er : rs = rs.dropLast ++ [rs.getLast hne] := (List.dropLast_concat_getLast hne).symm
      rw [← hrs]
      refine ⟨l0 :: ls0, rs.dropLast, rs.getLast hne, wt, rfl, by rw [← er]; exact L1, k1, f1, ?_⟩
      unfold textRows
      rw [if_neg (by rintro (z | z); exact absurd z (Nat.lt_irrefl _); exact hne z), List.getLast?_eq_some_getLast hne]
  rintro σ H2 ⟨ls2, init, r, wt2, rfl, L2, k2, f2, e2⟩
  obtain ⟨⟨dn, hln⟩, hfo, hls, hnd⟩ := id L2
  obtain ⟨ls', b, rfl, hls', db, hb⟩ := paired_last hls
  have hbm : b ∈ ls ∨ H b = none := f2 b (by simp)
  rw [List.map_append] at hfo
  refine ⟨_, rfl, ln, _, dn, _, _, rfl, hln, T.cl_Lines, T.n_Lines_found, rfl, _, rfl, fo, _, _, _, rfl, rfl, SqL.of hfo, atI_last _ _, ?_⟩
  refine ⟨_, rfl, _, rfl, _, _, rfl, rfl, _, rfl, b, _, db, _, rfl, hb, T.cl_Line, T.n_Line_length, (by show 3 < 1000; decide), ?_⟩
  have nbl : b ≠ ln := ne_of hb hln (ins_ne (by show ¬ ([("indent" : Str), "length", "flat_breaks"] = [("found" : Str), "waiting"]); decide +kernel))
  have nbf : b ≠ fo := ne_of hb hfo (by intro z; cases z)
  have nfl : fo ≠ ln := ne_of hfo hln (by intro z; cases z)
  refine ⟨_, rfl, b, _, db, _, _, rfl, upd_same, T.cl_Line, T.n_Line_flat_breaks, rfl, _, rfl, ln, _, dn, _, _, rfl, by rw [upd_ne nbl.symm]; exact hln, T.cl_Lines, T.n_Lines_waiting, rfl, _, _, rfl, rfl, db, _, upd_same, (by show 3 < 1000; decide), ?_⟩
  rw [upd_upd]
  refine ⟨_, rfl, ln, _, dn, _, rfl, by rw [upd_ne nbl.symm]; exact hln, T.cl_Lines, T.n_Lines_waiting, (by show 2 < 1000; decide), ?_⟩
  refine q _ (ls' ++ [b]) ⟨⟨dn, upd_same⟩, ?_, ?_, hnd⟩ (fun z o e h1 h2 h3 => ?_) f2
  ·rw [upd_ne nfl, upd_ne nbf.symm, List.map_append]
   exact hfo
  ·rw [← e2]
   refine paired_append (paired_mem hls' fun c r' hc ⟨dc, e⟩ => ⟨dc, ?_⟩) (.cons ⟨db, ?_⟩ .nil)
   ·have hcb : c ≠ b := fun z => by
     rw [List.nodup_append] at hnd
     exact hnd.2.2 c hc b (List.mem_singleton.mpr rfl) z
    rw [upd_ne (ne_of e hln (ins_ne (by show ¬ ([("indent" : Str), "length", "flat_breaks"] = [("found" : Str), "waiting"]); decide +kernel))), upd_ne hcb]
    exact e
   ·rw [upd_ne nbl, upd_same]
    rfl
  ·rw [upd_ne h1]
   have hzb : z ≠ b := fun w => by
    rcases hbm with hm | hm
    ·exact h3 (w ▸ hm)
    ·rw [← w, e] at hm
     cases hm
   rw [upd_ne hzb]
   exact k2 z o e h1 h2 h3
end
end WL
set_option Elab.async false
set_option linter.all false
set_option maxRecDepth 100000
set_option maxHeartbeats 2000000
namespace WL
open PySem PySem.Spec PyProof.Rows L2
open Vafmtb (Doc Held)
theorem line_of {A : Ad} {H : Hp} {ls : List Addr} {rs : List VRow} (h : Paired (fun b r => LineAt A H b r) ls rs) {i : Nat} {x : V} (hx : (ls.map V.ref)[i]? = some x) : ∃ b r dx, x = .ref b ∧ rs[i]? = some r ∧ H b = some (.ins A.C_Line dx (lineF r.ind r.length r.flats)) := by
 rw [List.getElem?_map] at hx
 cases e : ls[i]? with
 | none =>
  rw [e] at hx
  cases hx
 | some b =>
  rw [e] at hx
  obtain ⟨r, h1, dx, h2⟩ := paired_get h e
  exact ⟨b, r, dx, (Option.some.inj hx).symm, h1, h2⟩
section
variable {P : Program} {w : World} {K : PySem.W.Frag} {mg : Str → Option Value} {base : Heap} {A : Ad}
theorem ok_Lines_greatest_length (T : Tx A K mg) : FnOk P w K mg base CX0 1 A.f_Lines_greatest_length A.fd_Lines_greatest_length ["self"] (sp_Lines_greatest_length A) := by
 have nd := sc_Lines_greatest_length.nd
 refine T.F_Lines_greatest_length.ok sc_Lines_greatest_length (fun vs H Q E h => ?_) (fun cdv Ar outer s H vs Q E hr h => ?_)
 ·obtain ⟨ln, fo, ls, rs, wt, rfl, _⟩ := h
  rfl
 ·obtain ⟨ln, fo, ls, rs, wt, rfl, ⟨⟨dn, hln⟩, hfo, hls, _⟩, hlen, q⟩ := h
  have lls : ls.length = rs.length := Paired.length hls
  refine ⟨_, (pss_one (ps_ret (pe_maxD rfl rfl T.b_max (pe_lc (te := (tFld K (tVar 1) "length")) (own := [("line", 1)]) rfl nd (pi_list (pe_fld (pv 0) rfl)) (show BlkOk ["self", "line"] (defScope s_Lines_greatest_length) _ _ from ⟨rfl, by decide +kernel, by decide +kernel, by decide +kernel, by decide +kernel⟩) (fun _ _ _ _ _ => pg_name (i := 1) nd rfl (Or.inl rfl)) (fun _ _ _ _ _ => pts_nil) (fun _ _ _ _ _ => (pe_fld (pv 1) rfl))) pe_int))), ?_⟩
  dsimp only [tRet, tMaxD, tCons]
  refine lcf (rs.map fun r => V.int (r.length : Int)) (by rfl) hln T.cl_Lines T.n_Lines_found rfl (SqL.of hfo) (by rw [List.length_map, List.length_map, lls]) (line_le (by rw [List.length_map]; omega)) (fun i x y H' hx hy s R hR => ?_) fun D H' hD s hd => ?_
  ·obtain ⟨b, r, dx, rfl, hr1, hb⟩ := line_of hls hx
   rw [List.getElem?_map, hr1] at hy
   have ey : V.int (r.length : Int) = y := Option.some.inj hy
   subst ey
   exact ⟨_, rfl, b, _, dx, _, _, rfl, s _ _ hb, T.cl_Line, T.n_Line_length, rfl, hR _ (.refl _)⟩
  ·refine ⟨D, rs.map fun r => (r.length : Int), 0, rfl, rfl, SqL.of (by rw [hd, List.map_map]; rfl), ?_⟩
   have emax : maxInts (rs.map fun r => (r.length : Int)) 0 = ((rs.foldl (fun (a : Nat) r => max a r.length) 0 : Nat) : Int) := by
    cases rs with
    | nil => rfl
    | cons x xs =>
     rw [List.foldl_cons, Nat.zero_max]
     exact (fold_max xs x.length).symm
   rw [emax]
   exact q _ s
theorem ok_Lines_told_numbers (T : Tx A K mg) : FnOk P w K mg base CX0 1 A.f_Lines_told_numbers A.fd_Lines_told_numbers ["self"] (sp_Lines_told_numbers A) := by
 have nd := sc_Lines_told_numbers.nd
 refine T.F_Lines_told_numbers.ok sc_Lines_told_numbers (fun vs H Q E h => ?_) (fun cdv Ar outer s H vs Q E hr h => ?_)
 ·obtain ⟨ln, fo, ls, rs, wt, rfl, _⟩ := h
  rfl
 ·obtain ⟨ln, fo, ls, rs, wt, rfl, ⟨⟨dn, hln⟩, hfo, hls, _⟩, hlen, q⟩ := h
  have lls : ls.length = rs.length := Paired.length hls
  refine ⟨_, (pss_cons (ps_set (i := 1) nd rfl (by first | exact Or.inl rfl | exact Or.inr rfl) (pe_lst pa_nil)) (pss_cons (ps_for PassesOwn.never rfl (pi_list (pe_fld (pv 0) rfl)) (pg_name (i := 2) nd rfl (by first | exact Or.inl rfl | exact Or.inr rfl)) (pss_one (ps_expr (pe_bm PySem.F.plainAttrs_list PySem.F.slot_list_extend PySem.F.type_list_extend mt_extend (pv 1) (pa_cons (pe_lst (pa_cons (pe_fld (pv 2) rfl) (pa_cons (pe_fld (pv 2) rfl) (pa_cons (pe_fld (pv 2) rfl) pa_nil)))) pa_nil))))) (pss_one (ps_ret (pv 1))))), ?_⟩
  refine ⟨Nat.zero_le _, fun p hp => ?_⟩
  have s0 := same_upd (o := .lst []) hp
  refine ⟨_, rfl, ln, _, dn, _, _, rfl, s0 _ _ hln, T.cl_Lines, T.n_Lines_found, rfl, fo, rfl, ⟨_, SqL.of (s0 _ _ hfo)⟩, ?_⟩
  have lim : ∀ l : List VRow, (rowNums l).length = 3 * l.length := by
   intro l
   induction l with
   | nil => rfl
   | cons r l ih =>
    unfold rowNums at ih ⊢
    rw [List.flatMap_cons, List.length_append, ih]
    show 3 + 3 * l.length = 3 * (l.length + 1)
    omega
  refine for_list (K := K) (a := fo) (xs := ls.map V.ref) (fun i σ H' => ∃ v : Option V, σ = [some (.ref ln), some (.ref p), v] ∧ i ≤ rs.length ∧ Same H H' ∧ H' p = some (.lst (intsV (rowNums (rs.take i))))) ⟨none, rfl, Nat.zero_le _, s0, upd_same⟩ (fun i σ H' _ ⟨_, _, _, s, _⟩ => SqL.of (s _ _ hfo)) ?_ ?_
  ·rintro i x σ H' hx ⟨v, rfl, hi, s, hr1⟩
   obtain ⟨b, r, dx, rfl, hri, hb⟩ := line_of hls hx
   have hi2 : i < rs.length := (List.getElem?_eq_some_iff.mp hri).1
   refine ⟨_, rfl, .inl ⟨rfl, _, SqL.of hr1⟩, _, rfl, b, _, dx, _, _, rfl, s _ _ hb, T.cl_Line, T.n_Line_length, rfl, _, rfl, b, _, dx, _, _, rfl, s _ _ hb, T.cl_Line, T.n_Line_indent, rfl, _, rfl, b, _, dx, _, _, rfl, s _ _ hb, T.cl_Line, T.n_Line_flat_breaks, rfl, (by show 3 ≤ sizeLine; decide), fun l nl => ?_⟩
   have s2 := same_upd (o := .lst [.int r.length, .int r.ind, .int r.flats]) nl
   have hlt := lim (rs.take i)
   rw [List.length_take] at hlt
   refine ⟨p, l, _, _, rfl, rfl, s2 _ _ hr1, upd_same, ?_, ?_⟩
   ·rw [intsV_length, hlt]
    exact line_le (by show _ + 3 ≤ _; omega)
   ·refine ⟨_, rfl, hi2, (s.trans s2).wr hp, ?_⟩
    rw [upd_same, List.take_succ, hri, Option.toList_some]
    unfold rowNums intsV
    rw [List.flatMap_append, List.map_append]
    rfl
  ·rintro σ H' ⟨v, rfl, hi, s, hr1⟩
   refine ⟨_, rfl, q _ p hp s ?_⟩
   rw [hr1, List.length_map, lls, List.take_length]
end
end WL
set_option Elab.async false
set_option linter.all false
set_option maxRecDepth 100000
set_option maxHeartbeats 2000000
namespace WL
open PySem PySem.Spec PyProof.Rows L2
open Vafmtb (Doc Held Cmd Mach placeOf blankComes breakComes gapComes heldNumber heldAtOf step1 stepsOf put)
def cmdF (p i : Int) (f : Bool) : List (Str × V) := [("place", .int p), ("indent", .int i), ("flat", .bl f)]
def CmdAt (A : Ad) (H : Hp) (c : Addr) (x : Nat × Cmd) : Prop := ∃ dx, H c = some (.ins A.C_Command dx (cmdF x.1 x.2.ind x.2.flat))
def cmdsP : Nat → List Cmd → List (Nat × Cmd)
 | _, [] => []
 | n, c :: r => (n, c) :: cmdsP (n + c.doc.size) r
theorem cmdsP_length : ∀ (n : Nat) (l : List Cmd), (cmdsP n l).length = l.length
 | _, [] => rfl
 | n, c :: r => congrArg (· + 1) (cmdsP_length _ r)
def CmdsAt (A : Ad) (H : Hp) (cm : Addr) (n : Nat) (l : List Cmd) : Prop := ∃ cs : List Addr, H cm = some (.lst (cs.reverse.map V.ref)) ∧ Paired (fun c x => CmdAt A H c x) cs (cmdsP n l)
structure Ex where
 wv : V
 gr : Nat
 tk : Nat
 wt : Nat
 rs : List VRow
def layF (doc pen wr ln fg cm : Addr) (x : Ex) : List (Str × V) := [("document", .ref doc), ("width", x.wv), ("pen", .ref pen), ("written", .ref wr), ("lines", .ref ln), ("flat_groups", .ref fg), ("greatest_reach", .int x.gr), ("taken", .int x.tk), ("commands", .ref cm)]
def sp_Command___init__ (A : Ad) : Sp := fun vs H Q _ => ∃ (a dx : Addr) (p i : Int) (f : Bool), vs = [.ref a, .int p, .int i, .bl f] ∧ H a = some (.ins A.C_Command dx []) ∧ Q .non (upd H a (.ins A.C_Command dx (cmdF p i f)))
section
variable {P : Program} {w : World} {K : PySem.W.Frag} {mg : Str → Option Value} {base : Heap} {A : Ad}
theorem ok_Command___init__ (T : Tx A K mg) : FnOk P w K mg base CX0 1 A.f_Command___init__ A.fd_Command___init__ ["self", "place", "indent", "flat"] (sp_Command___init__ A) := by
 have nd := sc_Command___init__.nd
 refine T.F_Command___init__.ok sc_Command___init__ (fun vs H Q E h => ?_) (fun cdv Ar outer s H vs Q E hr h => ?_)
 ·obtain ⟨a, dx, c, h, i, rfl, _⟩ := h
  rfl
 ·obtain ⟨a, dx, c, h, i, rfl, ha, q⟩ := h
  refine ⟨_, (pss_cons (ps_fld (pv 0) (pv 1) rfl) (pss_cons (ps_fld (pv 0) (pv 2) rfl) (pss_one (ps_fld (pv 0) (pv 3) rfl)))), ?_⟩
  refine ⟨_, rfl, _, rfl, a, _, dx, _, rfl, ha, T.cl_Command, T.n_Command_place, (by show 0 < 1000; decide), ?_⟩
  refine ⟨_, rfl, _, rfl, a, _, dx, _, rfl, upd_same, T.cl_Command, T.n_Command_indent, (by show 1 < 1000; decide), ?_⟩
  rw [upd_upd]
  refine ⟨_, rfl, _, rfl, a, _, dx, _, rfl, upd_same, T.cl_Command, T.n_Command_flat, (by show 2 < 1000; decide), ?_⟩
  rw [upd_upd]
  exact q
end
theorem pen_names (c h i : Int) : (penF c h i).map Prod.fst = [("column" : Str), "held", "held_indent"] := rfl
theorem cmd_names (p i : Int) (f : Bool) : (cmdF p i f).map Prod.fst = [("place" : Str), "indent", "flat"] := rfl
theorem line_names (i l f : Int) : (lineF i l f).map Prod.fst = [("indent" : Str), "length", "flat_breaks"] := rfl
theorem lines_names (fo : Addr) (w : Int) : (linesF fo w).map Prod.fst = [("found" : Str), "waiting"] := rfl
theorem lay_names (doc pen wr ln fg cm : Addr) (x : Ex) : (layF doc pen wr ln fg cm x).map Prod.fst = [("document" : Str), "width", "pen", "written", "lines", "flat_groups", "greatest_reach", "taken", "commands"] := rfl
theorem cmd_pen {C dx C' dp : Addr} {p i c h j : Int} {f : Bool} : HO.ins C dx (cmdF p i f) ≠ HO.ins C' dp (penF c h j) := ins_ne (by rw [cmd_names, pen_names]; decide +kernel)
theorem line_pen {C dx C' dp : Addr} {p i l c h j : Int} : HO.ins C dx (lineF p i l) ≠ HO.ins C' dp (penF c h j) := ins_ne (by rw [line_names, pen_names]; decide +kernel)
theorem cmd_line {C dx C' dp : Addr} {p i c h j : Int} {f : Bool} : HO.ins C dx (cmdF p i f) ≠ HO.ins C' dp (lineF c h j) := ins_ne (by rw [cmd_names, line_names]; decide +kernel)
theorem cmd_lines {C dx C' dp fo : Addr} {p i c : Int} {f : Bool} : HO.ins C dx (cmdF p i f) ≠ HO.ins C' dp (linesF fo c) := ins_ne (by rw [cmd_names, lines_names]; decide +kernel)
theorem lines_pen {C dx C' dp fo : Addr} {wt c h j : Int} : HO.ins C dx (linesF fo wt) ≠ HO.ins C' dp (penF c h j) := ins_ne (by rw [lines_names, pen_names]; decide +kernel)
theorem lay_pen {C dx C' dp doc pen wr ln fg cm : Addr} {x : Ex} {c h j : Int} : HO.ins C dx (layF doc pen wr ln fg cm x) ≠ HO.ins C' dp (penF c h j) := ins_ne (by rw [lay_names, pen_names]; decide +kernel)
theorem lay_line {C dx C' dp doc pen wr ln fg cm : Addr} {x : Ex} {c h j : Int} : HO.ins C dx (layF doc pen wr ln fg cm x) ≠ HO.ins C' dp (lineF c h j) := ins_ne (by rw [lay_names, line_names]; decide +kernel)
theorem lay_lines {C dx C' dp doc pen wr ln fg cm fo : Addr} {x : Ex} {c : Int} : HO.ins C dx (layF doc pen wr ln fg cm x) ≠ HO.ins C' dp (linesF fo c) := ins_ne (by rw [lay_names, lines_names]; decide +kernel)
theorem lay_cmd {C dx C' dp doc pen wr ln fg cm : Addr} {x : Ex} {p i : Int} {f : Bool} : HO.ins C dx (layF doc pen wr ln fg cm x) ≠ HO.ins C' dp (cmdF p i f) := ins_ne (by rw [lay_names, cmd_names]; decide +kernel)
structure LayW (A : Ad) (H0 H : Hp) (a dx doc pen wr fg cm ln fo : Addr) (x : Ex) (root : Doc) (w n : Nat) (m : Mach) (l : List Cmd) : Prop where
 at_ : H a = some (.ins A.C_Laying dx (layF doc pen wr ln fg cm x))
 base : Same H0 H
 docA : DocAt A H0 doc root
 pen_ : ∃ dp, H pen = some (penO A dp m.col m.held)
 wr_ : H wr = some (.lst (intsV (toInts m.out.reverse)))
 fg_ : H fg = some (.lst (intsV (m.modes.reverse.map fun b => if b = true then 1 else 0)))
 cm_ : CmdsAt A H cm n l
 lin_ : ∃ ls, LinesAt A H ln fo ls x.rs x.wt ∧ ∀ b ∈ ls, H0 b = none
 n1 : H0 a = none
 n2 : H0 pen = none
 n3 : H0 wr = none
 n4 : H0 fg = none
 n5 : H0 cm = none
 n6 : H0 ln = none
 n7 : H0 fo = none
 d1 : wr ≠ fg
 d2 : wr ≠ cm
 d3 : fg ≠ cm
 d4 : wr ≠ fo
 d5 : fg ≠ fo
 d6 : cm ≠ fo
theorem CmdsAt.but {A : Ad} {H H' : Hp} {cm b : Addr} {n : Nat} {l : List Cmd} (h : CmdsAt A H cm n l) (k : But b H H') (hb : cm ≠ b) (hc : ∀ (c dx : Addr) (p i : Int) (f : Bool), H c = some (.ins A.C_Command dx (cmdF p i f)) → c ≠ b) : CmdsAt A H' cm n l := by
 obtain ⟨cs, h1, h2⟩ := h
 refine ⟨cs, k _ _ h1 hb, Paired.mapP h2 fun c x ⟨dx, e⟩ => ⟨dx, k _ _ e (hc c dx _ _ _ e)⟩⟩
theorem CmdsAt.mono {A : Ad} {H H' : Hp} {cm : Addr} {n : Nat} {l : List Cmd} (h : CmdsAt A H cm n l) (s : Same H H') : CmdsAt A H' cm n l := by
 obtain ⟨cs, h1, h2⟩ := h
 exact ⟨cs, s _ _ h1, Paired.mapP h2 fun c x ⟨dx, e⟩ => ⟨dx, s _ _ e⟩⟩
theorem LinesAt.but {A : Ad} {H H' : Hp} {ln fo b : Addr} {ls : List Addr} {rs : List VRow} {wt : Nat} (L : LinesAt A H ln fo ls rs wt) (k : But b H H') (h1 : ln ≠ b) (h2 : fo ≠ b) (h3 : ∀ (c dx : Addr) (p i f : Int), H c = some (.ins A.C_Line dx (lineF p i f)) → c ≠ b) : LinesAt A H' ln fo ls rs wt := by
 obtain ⟨⟨dn, e1⟩, e2, e3, e4⟩ := L
 exact ⟨⟨dn, k _ _ e1 h1⟩, k _ _ e2 h2, Paired.mapP e3 fun c r ⟨dx, e⟩ => ⟨dx, k _ _ e (h3 c dx _ _ _ e)⟩, e4⟩
section
variable {A : Ad} {H0 H H' : Hp} {a dx doc pen wr fg cm ln fo : Addr} {x : Ex} {root : Doc} {w n : Nat} {m : Mach} {l : List Cmd}
theorem LayW.mono (L : LayW A H0 H a dx doc pen wr fg cm ln fo x root w n m l) (s : Same H H') : LayW A H0 H' a dx doc pen wr fg cm ln fo x root w n m l := by
 obtain ⟨dp, hp⟩ := L.pen_
 obtain ⟨ls, h1, h2⟩ := L.lin_
 exact { L with at_ := s _ _ L.at_, base := L.base.trans s, pen_ := ⟨dp, s _ _ hp⟩, wr_ := s _ _ L.wr_, fg_ := s _ _ L.fg_, cm_ := L.cm_.mono s, lin_ := ⟨ls, h1.mono s, h2⟩ }
theorem LayW.penned {dp : Addr} {c : Nat} {h : Held} (L : LayW A H0 H a dx doc pen wr fg cm ln fo x root w n m l) (hp : H' pen = some (penO A dp c h)) (k : But pen H H') : LayW A H0 H' a dx doc pen wr fg cm ln fo x root w n { m with col := c, held := h } l := by
 obtain ⟨dq, hq⟩ := L.pen_
 obtain ⟨ls, hl1, hl2⟩ := L.lin_
 obtain ⟨dn, hln⟩ := hl1.at_
 refine { L with at_ := k _ _ L.at_ (ne_of L.at_ hq lay_pen), base := k.same L.base L.n2, pen_ := ⟨dp, hp⟩, wr_ := k _ _ L.wr_ (ne_of L.wr_ hq (by intro z; cases z)), fg_ := k _ _ L.fg_ (ne_of L.fg_ hq (by intro z; cases z)), cm_ := L.cm_.but k ?_ ?_, lin_ := ⟨ls, hl1.but k (ne_of hln hq lines_pen) (ne_of hl1.fo_ hq (by intro z; cases z)) ?_, hl2⟩ }
 ·obtain ⟨cs, h1, _⟩ := L.cm_
  exact ne_of h1 hq (by intro z; cases z)
 ·intro c dx p i f e
  exact ne_of e hq cmd_pen
 ·intro c dx p i f e
  exact ne_of e hq line_pen
theorem LayW.wrote (L : LayW A H0 H a dx doc pen wr fg cm ln fo x root w n m l) (o : Vafmtb.Bytes) : LayW A H0 (upd H wr (.lst (intsV (toInts o.reverse)))) a dx doc pen wr fg cm ln fo x root w n { m with out := o } l := by
 obtain ⟨dp, hp⟩ := L.pen_
 obtain ⟨ls, hl1, hl2⟩ := L.lin_
 obtain ⟨dn, hln⟩ := hl1.at_
 have k : But wr H (upd H wr (.lst (intsV (toInts o.reverse)))) := .upd _ _ _
 exact { L with at_ := k _ _ L.at_ (ne_of L.at_ L.wr_ (by intro z; cases z)), base := L.base.wr L.n3, pen_ := ⟨dp, k _ _ hp (ne_of hp L.wr_ (by intro z; cases z))⟩, wr_ := upd_same, fg_ := k _ _ L.fg_ L.d1.symm, cm_ := L.cm_.but k L.d2.symm fun c dx p i f e => ne_of e L.wr_ (by intro z; cases z), lin_ := ⟨ls, hl1.but k (ne_of hln L.wr_ (by intro z; cases z)) L.d4.symm fun c dx p i f e => ne_of e L.wr_ (by intro z; cases z), hl2⟩ }
theorem LayW.moded (L : LayW A H0 H a dx doc pen wr fg cm ln fo x root w n m l) (o : List Bool) : LayW A H0 (upd H fg (.lst (intsV (o.reverse.map fun b => if b = true then 1 else 0)))) a dx doc pen wr fg cm ln fo x root w n { m with modes := o } l := by
 obtain ⟨dp, hp⟩ := L.pen_
 obtain ⟨ls, hl1, hl2⟩ := L.lin_
 obtain ⟨dn, hln⟩ := hl1.at_
 have k : But fg H (upd H fg (.lst (intsV (o.reverse.map fun b => if b = true then 1 else 0)))) := .upd _ _ _
 exact { L with at_ := k _ _ L.at_ (ne_of L.at_ L.fg_ (by intro z; cases z)), base := L.base.wr L.n4, pen_ := ⟨dp, k _ _ hp (ne_of hp L.fg_ (by intro z; cases z))⟩, wr_ := k _ _ L.wr_ L.d1, fg_ := upd_same, cm_ := L.cm_.but k L.d3.symm fun c dx p i f e => ne_of e L.fg_ (by intro z; cases z), lin_ := ⟨ls, hl1.but k (ne_of hln L.fg_ (by intro z; cases z)) L.d5.symm fun c dx p i f e => ne_of e L.fg_ (by intro z; cases z), hl2⟩ }
theorem LayW.cmded {n' : Nat} {l' : List Cmd} {xs : List V} (L : LayW A H0 H a dx doc pen wr fg cm ln fo x root w n m l) (hc : CmdsAt A (upd H cm (.lst xs)) cm n' l') : LayW A H0 (upd H cm (.lst xs)) a dx doc pen wr fg cm ln fo x root w n' m l' := by
 obtain ⟨dp, hp⟩ := L.pen_
 obtain ⟨cs, h1, _⟩ := L.cm_
 obtain ⟨ls, hl1, hl2⟩ := L.lin_
 obtain ⟨dn, hln⟩ := hl1.at_
 have k : But cm H (upd H cm (.lst xs)) := .upd _ _ _
 exact { L with at_ := k _ _ L.at_ (ne_of L.at_ h1 (by intro z; cases z)), base := L.base.wr L.n5, pen_ := ⟨dp, k _ _ hp (ne_of hp h1 (by intro z; cases z))⟩, wr_ := k _ _ L.wr_ L.d2, fg_ := k _ _ L.fg_ L.d3, cm_ := hc, lin_ := ⟨ls, hl1.but k (ne_of hln h1 (by intro z; cases z)) L.d6.symm fun c dx p i f e => ne_of e h1 (by intro z; cases z), hl2⟩ }
theorem LayW.exed {y : Ex} (L : LayW A H0 H a dx doc pen wr fg cm ln fo x root w n m l) (h1 : y.rs = x.rs) (h2 : y.wt = x.wt) : LayW A H0 (upd H a (.ins A.C_Laying dx (layF doc pen wr ln fg cm y))) a dx doc pen wr fg cm ln fo y root w n m l := by
 obtain ⟨dp, hp⟩ := L.pen_
 obtain ⟨cs, hc, _⟩ := L.cm_
 obtain ⟨ls, hl1, hl2⟩ := L.lin_
 obtain ⟨dn, hln⟩ := hl1.at_
 have k : But a H (upd H a (.ins A.C_Laying dx (layF doc pen wr ln fg cm y))) := .upd _ _ _
 refine { L with at_ := upd_same, base := L.base.wr L.n1, pen_ := ⟨dp, k _ _ hp (ne_of L.at_ hp lay_pen).symm⟩, wr_ := k _ _ L.wr_ (ne_of L.wr_ L.at_ (by intro z; cases z)), fg_ := k _ _ L.fg_ (ne_of L.fg_ L.at_ (by intro z; cases z)), cm_ := L.cm_.but k (ne_of hc L.at_ (by intro z; cases z)) fun c dx p i f e => (ne_of L.at_ e lay_cmd).symm, lin_ := ?_ }
 rw [h1, h2]
 exact ⟨ls, hl1.but k (ne_of L.at_ hln lay_lines).symm (ne_of hl1.fo_ L.at_ (by intro z; cases z)) fun c dx p i f e => (ne_of L.at_ e lay_line).symm, hl2⟩
theorem LayW.waits {dn : Addr} (L : LayW A H0 H a dx doc pen wr fg cm ln fo x root w n m l) (hln : H ln = some (.ins A.C_Lines dn (linesF fo x.wt))) (t : Nat) : LayW A H0 (upd H ln (.ins A.C_Lines dn (linesF fo t))) a dx doc pen wr fg cm ln fo { x with wt := t } root w n m l := by
 obtain ⟨dp, hp⟩ := L.pen_
 obtain ⟨cs, hc, _⟩ := L.cm_
 obtain ⟨ls, hl1, hl2⟩ := L.lin_
 have k : But ln H (upd H ln (.ins A.C_Lines dn (linesF fo t))) := .upd _ _ _
 refine { L with at_ := k _ _ L.at_ (ne_of L.at_ hln lay_lines), base := L.base.wr L.n6, pen_ := ⟨dp, k _ _ hp (ne_of hln hp lines_pen).symm⟩, wr_ := k _ _ L.wr_ (ne_of L.wr_ hln (by intro z; cases z)), fg_ := k _ _ L.fg_ (ne_of L.fg_ hln (by intro z; cases z)), cm_ := L.cm_.but k (ne_of hc hln (by intro z; cases z)) fun c dx p i f e => ne_of e hln cmd_lines, lin_ := ⟨ls, ⟨⟨dn, upd_same⟩, k _ _ hl1.fo_ (ne_of hl1.fo_ hln (by intro z; cases z)), Paired.mapP hl1.ls_ fun c r ⟨dx, e⟩ => ⟨dx, k _ _ e (ne_of e hln (ins_ne (by rw [line_names, lines_names]; decide +kernel)))⟩, hl1.nd_⟩, hl2⟩ }
theorem LayW.lined {ls ls' : List Addr} {rs : List VRow} {t : Nat} (L : LayW A H0 H a dx doc pen wr fg cm ln fo x root w n m l) (h1 : LinesAt A H ln fo ls x.rs x.wt) (h2 : ∀ b ∈ ls, H0 b = none) (h3 : LinesAt A H' ln fo ls' rs t) (k : ButN ln fo ls H H') (f : ∀ b ∈ ls', b ∈ ls ∨ H b = none) : LayW A H0 H' a dx doc pen wr fg cm ln fo { x with rs := rs, wt := t } root w n m l := by
 obtain ⟨dp, hp⟩ := L.pen_
 obtain ⟨cs, hc, hcs⟩ := L.cm_
 obtain ⟨dn, hln⟩ := h1.at_
 have out : ∀ b o, H b = some o → (∀ c d e, ∀ C dx : Addr, o ≠ .ins C dx (lineF c d e)) → b ∉ ls := fun b o e hn hm => by
  obtain ⟨r, dx, e2⟩ := paired_in h1.ls_ b hm
  rw [e] at e2
  exact hn _ _ _ _ _ (Option.some.inj e2)
 refine { L with at_ := k _ _ L.at_ (ne_of L.at_ hln lay_lines) (ne_of L.at_ h1.fo_ (by intro z; cases z)) (out _ _ L.at_ fun _ _ _ _ _ => lay_line), base := fun b o e => k b o (L.base b o e) (ne_of_none e L.n6) (ne_of_none e L.n7) (fun hm => by rw [h2 b hm] at e; cases e), pen_ := ⟨dp, k _ _ hp (ne_of hln hp lines_pen).symm (ne_of hp h1.fo_ (by intro z; cases z)) (out _ _ hp fun _ _ _ _ _ => line_pen.symm)⟩, wr_ := k _ _ L.wr_ (ne_of L.wr_ hln (by intro z; cases z)) L.d4 (out _ _ L.wr_ fun _ _ _ _ _ z => by cases z), fg_ := k _ _ L.fg_ (ne_of L.fg_ hln (by intro z; cases z)) L.d5 (out _ _ L.fg_ fun _ _ _ _ _ z => by cases z), cm_ := ⟨cs, k _ _ hc (ne_of hc hln (by intro z; cases z)) L.d6 (out _ _ hc fun _ _ _ _ _ z => by cases z), Paired.mapP hcs fun c y ⟨dy, e⟩ => ⟨dy, k _ _ e (ne_of e hln cmd_lines) (ne_of e h1.fo_ (by intro z; cases z)) (out _ _ e fun _ _ _ _ _ => cmd_line)⟩⟩, lin_ := ⟨ls', h3, fun b hb => ?_⟩ }
 rcases f b hb with hb | hb
 ·exact h2 b hb
 ·exact L.base.free hb
theorem LayW.congr {m' : Mach} (L : LayW A H0 H a dx doc pen wr fg cm ln fo x root w n m l) (h1 : m'.col = m.col) (h2 : m'.held = m.held) (h3 : m'.out = m.out) (h4 : m'.modes = m.modes) : LayW A H0 H a dx doc pen wr fg cm ln fo x root w n m' l := by
 refine { L with pen_ := ?_, wr_ := ?_, fg_ := ?_ }
 ·rw [h1, h2]
  exact L.pen_
 ·rw [h3]
  exact L.wr_
 ·rw [h4]
  exact L.fg_
theorem LayW.out {z : Addr} {H0' : Hp} (L : LayW A H0 H a dx doc pen wr fg cm ln fo x root w n m l) (k : But z H H') (hz : ∃ o, H0 z = some o) (hc : ∀ (c dx : Addr) (p i : Int) (f : Bool), H c = some (.ins A.C_Command dx (cmdF p i f)) → c ≠ z) (s : Same H0' H') (hD : DocAt A H0' doc root) (fr : ∀ b, H0 b = none → (∃ o, H b = some o) → H0' b = none) : LayW A H0' H' a dx doc pen wr fg cm ln fo x root w n m l := by
  obtain ⟨dp, hp⟩ := L.pen_
  obtain ⟨cs, hcm, hcs⟩ := L.cm_
  obtain ⟨ls, hl1, hl2⟩ := L.lin_
  obtain ⟨dn, hln⟩ := hl1.at_
  obtain ⟨oz, hz⟩ := hz
  have q : ∀ b o, H b = some o → H0 b = none → H' b = some o ∧ H0' b = none := fun b o e n => ⟨k _ _ e (ne_of_none hz n).symm, fr b n ⟨o, e⟩⟩
  exact { at_ := (q _ _ L.at_ L.n1).1, base := s, docA := hD, pen_ := ⟨dp, (q _ _ hp L.n2).1⟩, wr_ := (q _ _ L.wr_ L.n3).1, fg_ := (q _ _ L.fg_ L.n4).1,
          cm_ := ⟨cs, (q _ _ hcm L.n5).1, Paired.mapP hcs fun c y ⟨dy, e⟩ => ⟨dy, k _ _ e (hc c dy _ _ _ e)⟩⟩,
          lin_ := ⟨ls, ⟨⟨dn, (q _ _ hln L.n6).1⟩, (q _ _ hl1.fo_ L.n7).1, paired_mem hl1.ls_ fun c r hm ⟨dy, e⟩ => ⟨dy, (q _ _ e (hl2 c hm)).1⟩, hl1.nd_⟩, fun b hb => by
            obtain ⟨r, dy, e⟩ := paired_in hl1.ls_ b hb
            exact (q _ _ e (hl2 b hb)).2⟩,
          n1 := (q _ _ L.at_ L.n1).2, n2 := (q _ _ hp L.n2).2, n3 := (q _ _ L.wr_ L.n3).2, n4 := (q _ _ L.fg_ L.n4).2, n5 := (q _ _ hcm L.n5).2, n6 := (q _ _ hln L.n6).2, n7 := (q _ _ hl1.fo_ L.n7).2,
          d1 := L.d1, d2 := L.d2, d3 := L.d3, d4 := L.d4, d5 := L.d5, d6 := L.d6 }
end
end WL
set_option Elab.async false
set_option linter.all false
set_option maxRecDepth 100000
set_option maxHeartbeats 2000000
namespace WL
open PySem PySem.Spec PyProof.Rows L2
open Vafmtb (Doc Held Cmd Mach placeOf blankComes breakComes gapComes heldNumber heldAtOf step1 stepsOf put)
theorem toInts_append (a b : Vafmtb.Bytes) : toInts (a ++ b) = toInts a ++ toInts b := List.map_append
theorem held_rev (h : Held) : ∃ hb : Vafmtb.Bytes, toInts hb = heldBytes h ∧ ∀ (m : Mach) (t : Vafmtb.Bytes), m.held = h → (Vafmtb.write m t).out = t.reverse ++ (hb.reverse ++ m.out) := by
 cases h with
 | nothing =>
  refine ⟨[], rfl, fun m t e => ?_⟩
  unfold Vafmtb.write
  rw [e]
  rfl
 | blank =>
  refine ⟨[32], rfl, fun m t e => ?_⟩
  unfold Vafmtb.write
  rw [e]
  rfl
 | newline i =>
  refine ⟨10 :: List.replicate i 32, ?_, fun m t e => ?_⟩
  ·unfold toInts heldBytes
   rw [List.map_cons, List.map_replicate]
   rfl
  ·unfold Vafmtb.write
   rw [e]
   simp
 | empty i =>
  refine ⟨10 :: 10 :: List.replicate i 32, ?_, fun m t e => ?_⟩
  ·unfold toInts heldBytes
   rw [List.map_cons, List.map_cons, List.map_replicate]
   rfl
  ·unfold Vafmtb.write
   rw [e]
   simp
theorem write_col (m : Mach) (t : Vafmtb.Bytes) : (Vafmtb.write m t).col = placeOf m.col m.held + t.length ∧ (Vafmtb.write m t).held = .nothing ∧ (Vafmtb.write m t).modes = m.modes := by
 unfold Vafmtb.write
 cases e : m.held <;> simp [e]
def sp_Laying_write (A : Ad) : Sp := fun vs H Q _ => ∃ (H0 : Hp) (a dx doc pen wr fg cm ln fo t : Addr) (x : Ex) (root : Doc) (w n : Nat) (m : Mach) (l : List Cmd) (tx : Vafmtb.Bytes), vs = [.ref a, .ref t] ∧ LayW A H0 H a dx doc pen wr fg cm ln fo x root w n m l ∧ H0 t = some (.lst (intsV (toInts tx))) ∧
 heldAtOf m.held ≤ 100000 ∧ m.out.length ≤ 9000000 ∧ tx.length ≤ 4000 ∧ x.rs.length ≤ 100000 ∧ ∀ H', LayW A H0 H' a dx doc pen wr fg cm ln fo { x with rs := textRows x.rs x.wt (breaksOf m.held) (placeOf m.col m.held) tx.length, wt := 0 } root w n (Vafmtb.write m tx) l → Q .non H'
def markHeld (m : Mach) (i : Nat) (f : Bool) : Vafmtb.Mark → Held
 | .blank => blankComes m.col m.held
 | .soft => if f = true then m.held else breakComes m.col i m.held
 | .line => if f = true then blankComes m.col m.held else breakComes m.col i m.held
 | .hard => breakComes m.col i m.held
 | .gap => gapComes m.col i m.held
def markWt (t : Nat) (f : Bool) : Vafmtb.Mark → Nat
 | .soft => if f = true then t + 1 else t
 | .line => if f = true then t + 1 else t
 | _ => t
def sp_Laying_step_mark (A : Ad) : Sp := fun vs H Q _ => ∃ (H0 : Hp) (a dx doc pen wr fg cm ln fo c : Addr) (x : Ex) (root : Doc) (w n : Nat) (m : Mach) (l : List Cmd) (y : Nat × Cmd) (k : Vafmtb.Mark), vs = [.ref a, .int k.number, .ref c] ∧ LayW A H0 H a dx doc pen wr fg cm ln fo x root w n m l ∧ CmdAt A H c y ∧
 ∀ H', LayW A H0 H' a dx doc pen wr fg cm ln fo { x with wt := markWt x.wt y.2.flat k } root w n { m with held := markHeld m y.2.ind y.2.flat k } l → Q .non H'
section
variable {P : Program} {w : World} {K : PySem.W.Frag} {mg : Str → Option Value} {base : Heap} {A : Ad}
theorem heldBytes_len (h : Held) : (heldBytes h).length ≤ heldAtOf h + 2 := by
 cases h with
 | nothing => simp [heldBytes]
 | blank => simp [heldBytes]
 | newline i => simp [heldBytes, heldAtOf]
 | empty i => simp [heldBytes, heldAtOf]
theorem ok_Laying_write (T : Tx A K mg) : FnOk P w K mg base CX0 4 A.f_Laying_write A.fd_Laying_write ["self", "text"] (sp_Laying_write A) := by
 have nd := sc_Laying_write.nd
 refine T.F_Laying_write.ok sc_Laying_write (fun vs H Q E h => ?_) (fun cdv Ar outer s H vs Q E hr h => ?_)
 ·obtain ⟨H0, a, dx, doc, pen, wr, fg, cm, ln, fo, t, x, root, w, n, m, l, tx, rfl, _⟩ := h
  rfl
 ·obtain ⟨H0, a, dx, doc, pen, wr, fg, cm, ln, fo, t, x, root, w, n, m, l, tx, rfl, L, ht, hh, ho, hx, hrs, q⟩ := h
  obtain ⟨dp, hp⟩ := L.pen_
  refine ⟨_, (pss_cons (ps_expr (pe_bm PySem.F.plainAttrs_list PySem.F.slot_list_extend PySem.F.type_list_extend mt_extend (pe_fld (pv 0) rfl) (pa_cons (pe_meth0 (pe_fld (pv 0) rfl) T.cl_Pen T.m_Pen_held_bytes (ok_Pen_held_bytes T) (hr.mono (by decide)) T.b_Pen_held_bytes .nil pass0) pa_nil))) (pss_cons (ps_expr (pe_bm PySem.F.plainAttrs_list PySem.F.slot_list_extend PySem.F.type_list_extend mt_extend (pe_fld (pv 0) rfl) (pa_cons (pv 1) pa_nil))) (pss_cons (ps_expr (pe_meth (pe_fld (pv 0) rfl) T.cl_Lines T.m_Lines_take_text (ok_Lines_take_text T) (hr.mono (by decide)) T.b_Lines_take_text .nil pass0 (pa_cons (pe_meth0 (pe_fld (pv 0) rfl) T.cl_Pen T.m_Pen_held_breaks (ok_Pen_held_breaks T) (hr.mono (by decide)) T.b_Pen_held_breaks .nil pass0) (pa_cons (pe_meth0 (pe_fld (pv 0) rfl) T.cl_Pen T.m_Pen_text_column (ok_Pen_text_column T) (hr.mono (by decide)) T.b_Pen_text_column .nil pass0) (pa_cons (pe_callB call_lenR rfl T.b_len PySem.boot_len (pa_cons (pv 1) pa_nil)) pa_nil))))) (pss_one (ps_expr (pe_meth (pe_fld (pv 0) rfl) T.cl_Pen T.m_Pen_take_text (ok_Pen_take_text T) (hr.mono (by decide)) T.b_Pen_take_text .nil pass0 (pa_cons (pe_callB call_lenR rfl T.b_len PySem.boot_len (pa_cons (pv 1) pa_nil)) pa_nil))))))), ?_⟩
  refine ⟨_, rfl, a, _, dx, _, _, rfl, L.at_, T.cl_Laying, T.n_Laying_written, rfl, .inl ⟨rfl, _, SqL.of L.wr_⟩, _, rfl, a, _, dx, _, _, rfl, L.at_, T.cl_Laying, T.n_Laying_pen, rfl, pen, dp, _, rfl, hp, rfl, pen, dp, _, _, rfl, hp, hh, fun H1 r nr s1 hr1 => ?_⟩
  have L1 := L.mono s1
  have hbl := heldBytes_len m.held
  refine ⟨wr, r, _, _, rfl, rfl, L1.wr_, hr1, ?_, ?_⟩
  ·rw [intsV_length, intsV_length, toInts, List.length_map, List.length_reverse]
   exact line_le (by omega)
  obtain ⟨hb, e1, e2⟩ := held_rev m.held
  have e3 : intsV (toInts m.out.reverse) ++ intsV (heldBytes m.held) = intsV (toInts (hb.reverse ++ m.out).reverse) := by
   rw [← e1, ← intsV_append, ← toInts_append, List.reverse_append, List.reverse_reverse]
  rw [e3]
  have L2 := L1.wrote (hb.reverse ++ m.out)
  generalize upd H1 wr (.lst (intsV (toInts (hb.reverse ++ m.out).reverse))) = H2 at L2 ⊢
  have hbl2 : hb.length = (heldBytes m.held).length := by rw [← e1, toInts, List.length_map]
  refine ⟨_, rfl, a, _, dx, _, _, rfl, L2.at_, T.cl_Laying, T.n_Laying_written, rfl, .inl ⟨rfl, _, SqL.of L2.wr_⟩, _, rfl, wr, t, _, _, rfl, rfl, L2.wr_, L2.base _ _ ht, ?_, ?_⟩
  ·rw [intsV_length, intsV_length, toInts, List.length_map, List.length_reverse, toInts, List.length_map]
   show (hb.reverse ++ m.out).length + tx.length ≤ sizeLine
   rw [List.length_append, List.length_reverse]
   exact line_le (by omega)
  have e4 : intsV (toInts (hb.reverse ++ m.out).reverse) ++ intsV (toInts tx) = intsV (toInts (tx.reverse ++ (hb.reverse ++ m.out)).reverse) := by
   have e5 : (tx.reverse ++ (hb.reverse ++ m.out)).reverse = (hb.reverse ++ m.out).reverse ++ tx := by rw [List.reverse_append, List.reverse_reverse]
   rw [e5, toInts_append, intsV_append]
  dsimp only
  rw [e4]
  have L3 := L2.wrote (tx.reverse ++ (hb.reverse ++ m.out))
  generalize upd H2 wr (.lst (intsV (toInts (tx.reverse ++ (hb.reverse ++ m.out)).reverse))) = H3 at L3 ⊢
  obtain ⟨dp3, hp3⟩ := L3.pen_
  obtain ⟨ls, hl1, hl2⟩ := L3.lin_
  obtain ⟨dn, hln⟩ := hl1.at_
  refine ⟨_, rfl, a, _, dx, _, _, rfl, L3.at_, T.cl_Laying, T.n_Laying_lines, rfl, ln, dn, _, rfl, hln, rfl,
   _, rfl, a, _, dx, _, _, rfl, L3.at_, T.cl_Laying, T.n_Laying_pen, rfl, pen, dp3, _, rfl, hp3, rfl, pen, dp3, m.col, m.held, rfl, hp3,
   _, rfl, a, _, dx, _, _, rfl, L3.at_, T.cl_Laying, T.n_Laying_pen, rfl, pen, dp3, _, rfl, hp3, rfl, pen, dp3, m.col, m.held, rfl, hp3,
   _, rfl, t, _, rfl, .inl (SqL.of (L3.base _ _ ht)), ln, fo, ls, x.rs, x.wt, breaksOf m.held, placeOf m.col m.held, tx.length, ?_, hl1, hrs, fun H4 ls' hl4 k4 f4 => ?_⟩
  ·rw [intsV_length, toInts, List.length_map]
   rfl
  have L4 := L3.lined hl1 hl2 hl4 k4 f4
  obtain ⟨dp4, hp4⟩ := L4.pen_
  refine ⟨_, rfl, a, _, dx, _, _, rfl, L4.at_, T.cl_Laying, T.n_Laying_pen, rfl, pen, dp4, _, rfl, hp4, rfl, _, rfl, t, _, rfl, .inl (SqL.of (L4.base _ _ ht)), pen, dp4, m.col, tx.length, m.held, ?_, hp4, fun H5 hp5 k5 => ?_⟩
  ·rw [intsV_length, toInts, List.length_map]
   rfl
  have L5 := L4.penned hp5 k5
  obtain ⟨c1, c2, c3⟩ := write_col m tx
  exact q H5 (L5.congr c1 c2 (e2 m tx rfl) c3)
theorem ok_Laying_step_mark (T : Tx A K mg) : FnOk P w K mg base CX0 3 A.f_Laying_step_mark A.fd_Laying_step_mark ["self", "kind", "command"] (sp_Laying_step_mark A) := by
 have nd := sc_Laying_step_mark.nd
 refine T.F_Laying_step_mark.ok sc_Laying_step_mark (fun vs H Q E h => ?_) (fun cdv Ar outer s H vs Q E hr h => ?_)
 ·obtain ⟨H0, a, dx, doc, pen, wr, fg, cm, ln, fo, c, x, root, w, n, m, l, y, k, rfl, _⟩ := h
  rfl
 ·obtain ⟨H0, a, dx, doc, pen, wr, fg, cm, ln, fo, c, x, root, w, n, m, l, y, k, rfl, L, hc, q⟩ := h
  obtain ⟨dc, hcc⟩ := hc
  obtain ⟨pl, ci, cf, cd⟩ := y
  refine ⟨_, (pss_mid (ps_if (PW.pt (pw_and (pt_truth (pe_fld (pv 2) rfl) (fun _ => rfl)) (pw_and1 (pt_cmpR op_in_seq (pv 1) (pe_tup (pa_cons (pe_gint rfl T.c_SOFT) (pa_cons (pe_gint rfl T.c_LINE) pa_nil))) (by with_unfolding_all rfl))))) (pss_one (ps_expr (pe_meth0 (pe_fld (pv 0) rfl) T.cl_Lines T.m_Lines_take_flat_break (ok_Lines_take_flat_break T) (hr.mono (by decide)) T.b_Lines_take_flat_break .nil pass0))) pss_nil) (pss_one (ps_if (PW.pt (pw_or (pt_cmpR op_eq (pv 1) (pe_gint rfl T.c_BLANK) (nomark _)) (pw_or1 (PW.pt (pw_and (pt_cmpR op_eq (pv 1) (pe_gint rfl T.c_LINE) (nomark _)) (pw_and1 (pt_truth (pe_fld (pv 2) rfl) (fun _ => rfl)))))))) (pss_one (ps_expr (pe_meth0 (pe_fld (pv 0) rfl) T.cl_Pen T.m_Pen_take_blank (ok_Pen_take_blank T) (hr.mono (by decide)) T.b_Pen_take_blank .nil pass0))) (pss_one (ps_if (pt_cmpR op_eq (pv 1) (pe_gint rfl T.c_GAP) (nomark _)) (pss_one (ps_expr (pe_meth (pe_fld (pv 0) rfl) T.cl_Pen T.m_Pen_take_gap (ok_Pen_take_gap T) (hr.mono (by decide)) T.b_Pen_take_gap .nil pass0 (pa_cons (pe_fld (pv 2) rfl) pa_nil)))) (pss_one (ps_if (PW.pt (pw_or (pt_cmpR op_eq (pv 1) (pe_gint rfl T.c_HARD) (nomark _)) (pw_or1 (pt_not (pt_truth (pe_fld (pv 2) rfl) (fun _ => rfl)))))) (pss_one (ps_expr (pe_meth (pe_fld (pv 0) rfl) T.cl_Pen T.m_Pen_take_break (ok_Pen_take_break T) (hr.mono (by decide)) T.b_Pen_take_break .nil pass0 (pa_cons (pe_fld (pv 2) rfl) pa_nil)))) pss_nil))))))), ?_⟩
  refine ⟨fun σ H1 => σ = [some (.ref a), some (.int k.number), some (.ref c)] ∧ LayW A H0 H1 a dx doc pen wr fg cm ln fo { x with wt := markWt x.wt cf k } root w n m l ∧ H1 c = some (.ins A.C_Command dc (cmdF pl ci cf)), ?_, ?_⟩
  ·refine ⟨_, rfl, c, _, dc, _, _, rfl, hcc, T.cl_Command, T.n_Command_flat, rfl, _, rfl, ?_⟩
   cases cf with
   | false =>
    refine iteF (iteF ⟨rfl, ?_, hcc⟩)
    cases k <;> exact L
   | true =>
    refine iteT ⟨_, rfl, (by show 2 ≤ sizeLine; decide), fun t1 nt1 => ?_⟩
    have s1 := same_upd (o := .tup [.int 2, .int 3]) nt1
    have L1 := L.mono s1
    have hc1 := s1 _ _ hcc
    have ht1 : (upd H t1 (.tup [.int 2, .int 3])) t1 = some (.tup [.int 2, .int 3]) := upd_same
    generalize upd H t1 (.tup [.int 2, .int 3]) = H1 at L1 hc1 ht1 ⊢
    refine ⟨t1, [.int 2, .int 3], rfl, .inr (SqT.of ht1), rfl, rfl, _, rfl, ite_in [2, 3] (fun hm => ?_) (fun hm => ?_)⟩
    ·obtain ⟨ls, hl1, hl2⟩ := L1.lin_
     obtain ⟨dn, hln⟩ := hl1.at_
     refine ⟨_, rfl, a, _, dx, _, _, rfl, L1.at_, T.cl_Laying, T.n_Laying_lines, rfl, ln, dn, _, rfl, hln, rfl, ln, dn, fo, x.wt, rfl, hln, ?_⟩
     refine ⟨rfl, ?_, ?_⟩
     ·have e : markWt x.wt true k = x.wt + 1 := by
       cases k with
       | soft => rfl
       | line => rfl
       | blank => exact absurd hm (by decide)
       | hard => exact absurd hm (by decide)
       | gap => exact absurd hm (by decide)
      rw [e]
      exact L1.waits hln (x.wt + 1)
     ·rw [upd_ne (ne_of hc1 hln cmd_lines)]
      exact hc1
    ·refine ⟨rfl, ?_, hc1⟩
     have e : markWt x.wt true k = x.wt := by
      cases k with
      | soft => exact absurd (show (2 : Int) ∈ [2, 3] by decide) hm
      | line => exact absurd (show (3 : Int) ∈ [2, 3] by decide) hm
      | blank => rfl
      | hard => rfl
      | gap => rfl
     rw [e]
     exact L1
  clear L hcc
  rintro σ H1 ⟨rfl, L, hcc⟩
  obtain ⟨dp, hp⟩ := L.pen_
  have fin : ∀ H' h, H' pen = some (penO A dp m.col h) → But pen H1 H' → h = markHeld m ci cf k → Q .non H' := fun H' h e1 e2 e3 => by
   subst e3
   exact q H' (L.penned e1 e2)
  cases k with
  | blank =>
   refine ⟨_, rfl, rfl, _, rfl, ite_eqI (fun _ => ?_) (fun h => absurd rfl h)⟩
   exact iteT ⟨_, rfl, a, _, dx, _, _, rfl, L.at_, T.cl_Laying, T.n_Laying_pen, rfl, pen, dp, _, rfl, hp, rfl, pen, dp, _, _, rfl, hp, fun H' e1 e2 => fin H' _ e1 e2 rfl⟩
  | gap =>
   refine ⟨_, rfl, rfl, _, rfl, ite_eqI (fun h => absurd h (by show ¬ (5 : Int) = 1; decide)) (fun _ => ?_)⟩
   refine ⟨_, rfl, rfl, _, rfl, ite_eqI (fun h => absurd h (by show ¬ (5 : Int) = 3; decide)) (fun _ => ?_)⟩
   refine iteF ?_
   refine ⟨_, rfl, rfl, _, rfl, ite_eqI (fun _ => ?_) (fun h => absurd rfl h)⟩
   exact ⟨_, rfl, a, _, dx, _, _, rfl, L.at_, T.cl_Laying, T.n_Laying_pen, rfl, pen, dp, _, rfl, hp, rfl, _, rfl, c, _, dc, _, _, rfl, hcc, T.cl_Command, T.n_Command_indent, rfl, pen, dp, _, ci, _, rfl, hp, fun H' e1 e2 => fin H' _ e1 e2 rfl⟩
  | hard =>
   refine ⟨_, rfl, rfl, _, rfl, ite_eqI (fun h => absurd h (by show ¬ (4 : Int) = 1; decide)) (fun _ => ?_)⟩
   refine ⟨_, rfl, rfl, _, rfl, ite_eqI (fun h => absurd h (by show ¬ (4 : Int) = 3; decide)) (fun _ => ?_)⟩
   refine iteF ?_
   refine ⟨_, rfl, rfl, _, rfl, ite_eqI (fun h => absurd h (by show ¬ (4 : Int) = 5; decide)) (fun _ => ?_)⟩
   refine ⟨_, rfl, rfl, _, rfl, ite_eqI (fun _ => ?_) (fun h => absurd rfl h)⟩
   refine iteT ?_
   exact ⟨_, rfl, a, _, dx, _, _, rfl, L.at_, T.cl_Laying, T.n_Laying_pen, rfl, pen, dp, _, rfl, hp, rfl, _, rfl, c, _, dc, _, _, rfl, hcc, T.cl_Command, T.n_Command_indent, rfl, pen, dp, _, ci, _, rfl, hp, fun H' e1 e2 => fin H' _ e1 e2 rfl⟩
  | soft =>
   refine ⟨_, rfl, rfl, _, rfl, ite_eqI (fun h => absurd h (by show ¬ (2 : Int) = 1; decide)) (fun _ => ?_)⟩
   refine ⟨_, rfl, rfl, _, rfl, ite_eqI (fun h => absurd h (by show ¬ (2 : Int) = 3; decide)) (fun _ => ?_)⟩
   refine iteF ?_
   refine ⟨_, rfl, rfl, _, rfl, ite_eqI (fun h => absurd h (by show ¬ (2 : Int) = 5; decide)) (fun _ => ?_)⟩
   refine ⟨_, rfl, rfl, _, rfl, ite_eqI (fun h => absurd h (by show ¬ (2 : Int) = 4; decide)) (fun _ => ?_)⟩
   refine ⟨_, rfl, c, _, dc, _, _, rfl, hcc, T.cl_Command, T.n_Command_flat, rfl, _, rfl, ?_⟩
   cases cf with
   | true => exact iteF (fin H1 _ hp (.refl _ _) rfl)
   | false =>
    refine iteT ?_
    exact ⟨_, rfl, a, _, dx, _, _, rfl, L.at_, T.cl_Laying, T.n_Laying_pen, rfl, pen, dp, _, rfl, hp, rfl, _, rfl, c, _, dc, _, _, rfl, hcc, T.cl_Command, T.n_Command_indent, rfl, pen, dp, _, ci, _, rfl, hp, fun H' e1 e2 => fin H' _ e1 e2 rfl⟩
  | line =>
   refine ⟨_, rfl, rfl, _, rfl, ite_eqI (fun h => absurd h (by show ¬ (3 : Int) = 1; decide)) (fun _ => ?_)⟩
   refine ⟨_, rfl, rfl, _, rfl, ite_eqI (fun _ => ?_) (fun h => absurd rfl h)⟩
   refine ⟨_, rfl, c, _, dc, _, _, rfl, hcc, T.cl_Command, T.n_Command_flat, rfl, _, rfl, ?_⟩
   cases cf with
   | true =>
    refine iteT ?_
    exact ⟨_, rfl, a, _, dx, _, _, rfl, L.at_, T.cl_Laying, T.n_Laying_pen, rfl, pen, dp, _, rfl, hp, rfl, pen, dp, _, _, rfl, hp, fun H' e1 e2 => fin H' _ e1 e2 rfl⟩
   | false =>
    refine iteF ?_
    refine ⟨_, rfl, rfl, _, rfl, ite_eqI (fun h => absurd h (by show ¬ (3 : Int) = 5; decide)) (fun _ => ?_)⟩
    refine ⟨_, rfl, rfl, _, rfl, ite_eqI (fun h => absurd h (by show ¬ (3 : Int) = 4; decide)) (fun _ => ?_)⟩
    refine ⟨_, rfl, c, _, dc, _, _, rfl, hcc, T.cl_Command, T.n_Command_flat, rfl, _, rfl, ?_⟩
    refine iteT ?_
    exact ⟨_, rfl, a, _, dx, _, _, rfl, L.at_, T.cl_Laying, T.n_Laying_pen, rfl, pen, dp, _, rfl, hp, rfl, _, rfl, c, _, dc, _, _, rfl, hcc, T.cl_Command, T.n_Command_indent, rfl, pen, dp, _, ci, _, rfl, hp, fun H' e1 e2 => fin H' _ e1 e2 rfl⟩
end
end WL
set_option Elab.async false
set_option linter.all false
set_option maxRecDepth 100000
set_option maxHeartbeats 2000000
namespace WL
open PySem PySem.Spec PyProof.Rows L2
open Vafmtb (Doc Held Cmd Mach placeOf blankComes breakComes gapComes heldNumber heldAtOf step1 stepsOf put)
theorem for_revd {K : PySem.W.Frag} {a : Addr} {xs : List V} {g : TG} {tb : TS} {D : Ends} {σ : L2.St} {H : Hp} (Pv : Nat → L2.St → Hp → Prop) (h0 : Pv 0 σ H) (hl : ∀ i σ H, i ≤ xs.length → Pv i σ H → SqL K H a xs)
  (hs : ∀ i x σ H, i < xs.length → xs[xs.length - 1 - i]? = some x → Pv i σ H → g x σ H fun σ2 H2 => tb { D with nx := Pv (i + 1), ct := Pv (i + 1), bk := D.nx } σ2 H2) (hd : ∀ σ H, Pv xs.length σ H → D.nx σ H) :
  ∃ W : Nat → Nat → L2.St → Hp → Prop, (∃ m, W 0 m σ H) ∧ ∀ i m σ H, W i m σ H →
   ((Itv K a xs.length).stop i H ∧ D.nx σ H) ∨ ((Itv K a xs.length).go i H ∧ ∃ N : L2.St → Hp → Prop, (∀ σ' H', N σ' H' → ∃ m', m' < m ∧ W (i + 1) m' σ' H') ∧ ∀ x H', (Itv K a xs.length).yld i H x H' → g x σ H' fun σ2 H2 => tb { D with nx := N, ct := N, bk := D.nx } σ2 H2) := by
 refine ⟨fun i m σ H => m = xs.length - i ∧ i ≤ xs.length ∧ Pv i σ H, ⟨xs.length, by simp, Nat.zero_le _, h0⟩, ?_⟩
 rintro i m σ H ⟨rfl, hi, p⟩
 have q := hl i σ H hi p
 by_cases hlt : i < xs.length
 ·have hx : xs[xs.length - 1 - i]? = some (xs[xs.length - 1 - i]'(by omega)) := List.getElem?_eq_getElem (by omega)
  refine .inr ⟨⟨hlt, xs, _, q, hx⟩, Pv (i + 1), fun σ' H' p' => ⟨xs.length - (i + 1), by omega, rfl, hlt, p'⟩, fun x H' y => ?_⟩
  obtain ⟨e, y⟩ := y
  subst e
  exact hs i x σ _ hlt (y xs q) p
 ·have e : i = xs.length := by omega
  subst e
  exact .inl ⟨Nat.le_refl _, hd σ H p⟩
def sp_Laying_find_reach (A : Ad) : Sp := fun vs H Q _ => ∃ (H0 : Hp) (a dx doc pen wr fg cm ln fo : Addr) (ex : Ex) (root e : Doc) (w n k : Nat) (m : Mach) (l : List Cmd), vs = [.ref a, .int n] ∧ LayW A H0 H a dx doc pen wr fg cm ln fo ex root w k m l ∧ (subs root)[n]? = some e ∧ root.size ≤ 600 ∧
 ∀ H', Same H H' → Q (.int (reachI (n + e.size) (n + 1) m.col m.held 0 ((subs root).drop (n + 1)) : Nat)) H'
def WVal (w : Nat) (v : V) : Prop := v = .int w ∨ (v = .non ∧ 9400 ≤ w)
def sp_Laying_fits (A : Ad) : Sp := fun vs H Q _ => ∃ (H0 : Hp) (a dx doc pen wr fg cm ln fo : Addr) (ex : Ex) (root e : Doc) (w n k : Nat) (m : Mach) (l : List Cmd) (rc : Nat), vs = [.ref a, .int n] ∧ LayW A H0 H a dx doc pen wr fg cm ln fo ex root w k m l ∧ (subs root)[n]? = some e ∧ root.size ≤ 600 ∧
 rc = reachI (n + e.size) (n + 1) m.col m.held 0 ((subs root).drop (n + 1)) ∧ rc ≤ 9400 ∧ WVal w ex.wv ∧ ∀ H', LayW A H0 H' a dx doc pen wr fg cm ln fo { ex with gr := max ex.gr rc } root w k m l → But a H H' → Q (.bl (decide (rc ≤ w))) H'
def sp_Laying_go_inside (A : Ad) : Sp := fun vs H Q _ => ∃ (H0 : Hp) (a dx doc pen wr fg cm ln fo c : Addr) (ex : Ex) (root : Doc) (w n i : Nat) (f : Bool) (m : Mach) (r : List Cmd) (x : Cmd), vs = [.ref a, .ref c, .int i, .bl f] ∧ LayW A H0 H a dx doc pen wr fg cm ln fo ex root w (n + x.doc.size) m r ∧ CmdAt A H c (n, x) ∧
 (subs root)[n]? = some x.doc ∧ root.size ≤ 600 ∧ (kids x.doc).length + r.length ≤ 2000 ∧ ∀ H', LayW A H0 H' a dx doc pen wr fg cm ln fo ex root w (n + 1) m (put i f (kids x.doc) r) → Q .non H'
section
variable {P : Program} {w : World} {K : PySem.W.Frag} {mg : Str → Option Value} {base : Heap} {A : Ad}
theorem ok_Laying_go_inside (T : Tx A K mg) : FnOk P w K mg base CX0 3 A.f_Laying_go_inside A.fd_Laying_go_inside ["self", "command", "indent", "flat"] (sp_Laying_go_inside A) := by
 have nd := sc_Laying_go_inside.nd
 refine T.F_Laying_go_inside.ok sc_Laying_go_inside (fun vs H Q E h => ?_) (fun cdv Ar outer s H vs Q E hr h => ?_)
 ·obtain ⟨H0, a, dx, doc, pen, wr, fg, cm, ln, fo, c, ex, root, w, n, i, f, m, r, x, rfl, _⟩ := h
  rfl
 ·obtain ⟨H0, a, dx, doc, pen, wr, fg, cm, ln, fo, c, ex, root, w, n, i, f, m, r, x, rfl, L, ⟨dc, hcc⟩, he, hsz, hlen, q⟩ := h
  obtain ⟨ddx, pl, sl, dl, fl, hdoc, hpl, hsl, hdl, hfl⟩ := L.docA
  refine ⟨_, (pss_one (ps_for PassesOwn.never rfl (pi_reversed rfl T.b_reversed (pa_cons (pe_meth (pe_fld (pv 0) rfl) T.cl_Document T.m_Document_inner_places (ok_Document_inner_places T) (hr.mono (by decide)) T.b_Document_inner_places .nil pass0 (pa_cons (pe_fld (pv 1) rfl) pa_nil)) pa_nil)) (pg_name (i := 4) nd rfl (by first | exact Or.inl rfl | exact Or.inr rfl)) (pss_one (ps_expr (pe_bm PySem.F.plainAttrs_list PySem.F.slot_list_append PySem.F.type_list_append mt_append (pe_fld (pv 0) rfl) (pa_cons (pe_make T.k_Command (ok_Command___init__ T) (hr.mono (by decide)) rfl T.mg_Command T.b_Command___init__ .nil pass0 (pa_cons (pv 4) (pa_cons (pv 2) (pa_cons (pv 3) pa_nil)))) pa_nil)))))), ?_⟩
  refine ⟨_, rfl, a, _, dx, _, _, rfl, L.at_, T.cl_Laying, T.n_Laying_document, rfl, doc, ddx, _, rfl, L.base _ _ hdoc, rfl, _, rfl, c, _, dc, _, _, rfl, hcc, T.cl_Command, T.n_Command_place, rfl,
   doc, ddx, pl, sl, dl, fl, root, x.doc, n, _, rfl, L.base _ _ hdoc, hpl.mono L.base, L.base _ _ hsl, he, fun z u _ hu => sizes_get hu, hsz, fun H1 l nl s1 hl1 => ?_⟩
  refine ⟨l, _, rfl, SqL.of hl1, ?_⟩
  have lk : (intsV ((innerPlaces n x.doc).map fun (z : Nat) => (z : Int))).length = (kids x.doc).length := by
   rw [intsV_length, List.length_map, innerPlaces, placesFrom_length]
  have sz : ∀ j, n + 1 + Vafmtb.sizeAll ((kids x.doc).take j) + Vafmtb.sizeAll ((kids x.doc).drop j) = n + x.doc.size := by
   intro j
   have e1 := subsAll_append ((kids x.doc).take j) ((kids x.doc).drop j)
   rw [List.take_append_drop] at e1
   have e2 := congrArg List.length e1
   rw [List.length_append, subsAll_length, subsAll_length, subsAll_length] at e2
   have e3 := size_eq x.doc
   omega
  refine for_revd (K := K) (a := l) (fun j σ H' => ∃ v : Option V, σ = [some (.ref a), some (.ref c), some (.int i), some (.bl f), v] ∧ j ≤ (kids x.doc).length ∧ H' l = some (.lst (intsV ((innerPlaces n x.doc).map fun (z : Nat) => (z : Int)))) ∧
   LayW A H0 H' a dx doc pen wr fg cm ln fo ex root w (n + 1 + Vafmtb.sizeAll ((kids x.doc).take ((kids x.doc).length - j))) m (put i f ((kids x.doc).drop ((kids x.doc).length - j)) r)) ⟨none, rfl, Nat.zero_le _, hl1, ?_⟩ (fun j σ H' _ ⟨_, _, _, e, _⟩ => SqL.of e) ?_ ?_
  ·rw [Nat.sub_zero, List.take_length, List.drop_length]
   have e3 := size_eq x.doc
   rw [show n + 1 + Vafmtb.sizeAll (kids x.doc) = n + x.doc.size by omega]
   exact L.mono s1
  ·rintro j y σ H' hj hy ⟨v, rfl, hjl, hl2, L2⟩
   rw [lk] at hj hy
   obtain ⟨t, et⟩ : ∃ t, t = (kids x.doc).length - 1 - j := ⟨_, rfl⟩
   rw [← et] at hy
   have ht : t < (kids x.doc).length := by omega
   have hj1 : (kids x.doc).length - j = t + 1 := by omega
   have hj2 : (kids x.doc).length - (j + 1) = t := by omega
   rw [hj1] at L2
   have hk : (kids x.doc)[t]? = some ((kids x.doc)[t]'ht) := List.getElem?_eq_getElem ht
   have hyv : y = .int ((n + 1 + Vafmtb.sizeAll ((kids x.doc).take t) : Nat) : Int) := by
    have h2 : (placesFrom (n + 1) (kids x.doc))[t]? = some (n + 1 + Vafmtb.sizeAll ((kids x.doc).take t)) := by
     have hl1 : ((kids x.doc).take t).length = t := by
      rw [List.length_take]
      omega
     conv => lhs; rw [← List.take_append_drop t (kids x.doc)]
     rw [placesFrom_append, List.getElem?_append_right (by rw [placesFrom_length]; omega), placesFrom_length, hl1, Nat.sub_self, List.drop_eq_getElem_cons ht]
     rfl
    unfold intsV at hy
    rw [List.getElem?_map, List.getElem?_map, innerPlaces, h2] at hy
    exact (Option.some.inj hy).symm
   subst hyv
   obtain ⟨cs, hcm, hcs⟩ := L2.cm_
   have lcs := Paired.length hcs
   rw [cmdsP_length] at lcs
   have lput : (put i f ((kids x.doc).drop (t + 1)) r).length = (kids x.doc).length - (t + 1) + r.length := by
    unfold Vafmtb.put
    rw [List.length_append, List.length_map, List.length_drop]
   refine ⟨_, rfl, a, _, dx, _, _, rfl, L2.at_, T.cl_Laying, T.n_Laying_commands, rfl, .inl ⟨rfl, _, SqL.of hcm⟩, _, rfl, _, rfl, _, rfl, ?_⟩
   intro b db nb ndb neb
   refine ⟨b, db, _, _, _, rfl, upd_same, rfl, ?_⟩
   have s3 : Same H' (upd (upd (upd H' db (.own b)) b (.ins A.C_Command db [])) b (.ins A.C_Command db (cmdF ((n + 1 + Vafmtb.sizeAll ((kids x.doc).take t) : Nat) : Int) i f))) := fun z o e => by
    rw [upd_ne (ne_of_none e nb), upd_ne (ne_of_none e nb), upd_ne (ne_of_none e ndb)]
    exact e
   have hb3 : (upd (upd (upd H' db (.own b)) b (.ins A.C_Command db [])) b (.ins A.C_Command db (cmdF ((n + 1 + Vafmtb.sizeAll ((kids x.doc).take t) : Nat) : Int) i f))) b = some (.ins A.C_Command db (cmdF ((n + 1 + Vafmtb.sizeAll ((kids x.doc).take t) : Nat) : Int) i f)) := upd_same
   generalize upd (upd (upd H' db (.own b)) b (.ins A.C_Command db [])) b (.ins A.C_Command db (cmdF ((n + 1 + Vafmtb.sizeAll ((kids x.doc).take t) : Nat) : Int) i f)) = H3 at s3 hb3 ⊢
   have L3 := L2.mono s3
   refine ⟨cm, _, _, rfl, rfl, s3 _ _ hcm, ?_, ?_⟩
   ·rw [List.length_map, List.length_reverse, lcs, lput]
    exact Nat.lt_of_lt_of_le (m := 5000) (by omega) (line_le (by omega))
   have ecs : cs.reverse.map V.ref ++ [.ref b] = (b :: cs).reverse.map V.ref := by
    rw [List.reverse_cons, List.map_append]
    rfl
   rw [ecs]
   have nlc : l ≠ cm := by
    obtain ⟨cs0, hcm0, _⟩ := L.cm_
    exact (ne_of_none hcm0 nl).symm
   have k4 : But cm H3 (upd H3 cm (.lst ((b :: cs).reverse.map V.ref))) := .upd _ _ _
   refine ⟨_, rfl, by omega, k4 _ _ (s3 _ _ hl2) nlc, ?_⟩
   rw [hj2]
   refine L3.cmded ⟨b :: cs, upd_same, ?_⟩
   have ep : cmdsP (n + 1 + Vafmtb.sizeAll ((kids x.doc).take t)) (put i f ((kids x.doc).drop t) r) = (n + 1 + Vafmtb.sizeAll ((kids x.doc).take t), ({ ind := i, flat := f, doc := (kids x.doc)[t]'ht } : Cmd)) :: cmdsP (n + 1 + Vafmtb.sizeAll ((kids x.doc).take (t + 1))) (put i f ((kids x.doc).drop (t + 1)) r) := by
    rw [List.drop_eq_getElem_cons ht]
    show (_, _) :: cmdsP (_ + ((kids x.doc)[t]'ht).size) _ = _
    have e5 : Vafmtb.sizeAll ((kids x.doc).take (t + 1)) = Vafmtb.sizeAll ((kids x.doc).take t) + ((kids x.doc)[t]'ht).size := by
     rw [List.take_succ, hk, Option.toList_some, ← subsAll_length, subsAll_append, List.length_append, subsAll_length, subsAll_one, subs_length]
    rw [e5, Nat.add_assoc (n + 1)]
    rfl
   rw [ep]
   refine .cons ⟨db, ?_⟩ (Paired.mapP hcs fun z y ⟨dz, e⟩ => ⟨dz, ?_⟩)
   ·rw [upd_ne (ne_of hb3 (s3 _ _ hcm) (by intro z; cases z))]
    exact hb3
   ·rw [upd_ne (ne_of e hcm (by intro z; cases z))]
    exact s3 _ _ e
  ·rintro σ H' ⟨v, rfl, hjl, hl2, L2⟩
   rw [lk, Nat.sub_self] at L2
   exact q H' L2
theorem ok_Laying_find_reach (T : Tx A K mg) : FnOk P w K mg base CX0 4 A.f_Laying_find_reach A.fd_Laying_find_reach ["self", "place"] (sp_Laying_find_reach A) := by
 have nd := sc_Laying_find_reach.nd
 refine T.F_Laying_find_reach.ok sc_Laying_find_reach (fun vs H Q E h => ?_) (fun cdv Ar outer s H vs Q E hr h => ?_)
 ·obtain ⟨H0, a, dx, doc, pen, wr, fg, cm, ln, fo, ex, root, e, w, n, k, m, l, rfl, _⟩ := h
  rfl
 ·obtain ⟨H0, a, dx, doc, pen, wr, fg, cm, ln, fo, ex, root, e, w, n, k, m, l, rfl, L, he, hsz, q⟩ := h
  obtain ⟨ddx, pl, sl, dl, fl, hdoc, hpl, hsl, hdl, hfl⟩ := L.docA
  obtain ⟨dp, hp⟩ := L.pen_
  obtain ⟨as, hpll, hpp⟩ := id hpl
  have las : (as.map V.ref).length = root.size := by rw [List.length_map, Paired.length hpp, List.length_map, subs_length]
  have hn : n < root.size := by
   have := (List.getElem?_eq_some_iff.mp he).1
   rw [subs_length] at this
   exact this
  refine ⟨_, (pss_cons (ps_set (i := 2) nd rfl (by first | exact Or.inl rfl | exact Or.inr rfl) (pe_fld (pe_fld (pv 0) rfl) rfl)) (pss_cons (ps_set (i := 3) nd rfl (by first | exact Or.inl rfl | exact Or.inr rfl) (pe_op op_add (pv 1) (pe_ix ix_list (pe_fld (pe_fld (pv 0) rfl) rfl) (pv 1) (fun _ _ => rfl)))) (pss_cons (ps_set (i := 4) nd rfl (by first | exact Or.inl rfl | exact Or.inr rfl) (pe_meth0 (pe_fld (pv 0) rfl) T.cl_Pen T.m_Pen_another (ok_Pen_another T) (hr.mono (by decide)) T.b_Pen_another .nil pass0)) (pss_cons (ps_set (i := 5) nd rfl (by first | exact Or.inl rfl | exact Or.inr rfl) pe_int) (pss_cons (ps_for PassesOwn.never rfl (pi_range2 rfl T.b_range (pa_cons (pe_op op_add (pv 1) pe_int) (pa_cons (pe_callB call_lenR rfl T.b_len PySem.boot_len (pa_cons (pv 2) pa_nil)) pa_nil))) (pg_name (i := 6) nd rfl (by first | exact Or.inl rfl | exact Or.inr rfl)) (pss_cons (ps_set (i := 7) nd rfl (by first | exact Or.inl rfl | exact Or.inr rfl) (pe_fld (pe_ix ix_list (pv 2) (pv 6) (fun _ _ => rfl)) rfl)) (pss_one (ps_if (pt_cmpR op_eq (pv 7) (pe_gint rfl T.c_TEXT) (nomark _)) (pss_cons (ps_expr (pe_meth (pv 4) T.cl_Pen T.m_Pen_take_text (ok_Pen_take_text T) (hr.mono (by decide)) T.b_Pen_take_text .nil pass0 (pa_cons (pe_fld (pe_ix ix_list (pv 2) (pv 6) (fun _ _ => rfl)) rfl) pa_nil))) (pss_one (ps_set (i := 5) nd rfl (by first | exact Or.inl rfl | exact Or.inr rfl) (pe_fld (pv 4) rfl)))) (pss_one (ps_if (PW.pt (pw_and (pt_cmpR op_ge (pv 6) (pv 3) (nomark _)) (pw_and1 (pt_cmpR op_in_seq (pv 7) (pe_tup (pa_cons (pe_gint rfl T.c_SOFT) (pa_cons (pe_gint rfl T.c_LINE) (pa_cons (pe_gint rfl T.c_HARD) (pa_cons (pe_gint rfl T.c_GAP) pa_nil))))) (by with_unfolding_all rfl))))) (pss_one ps_break) (pss_one (ps_if (pt_cmpR op_in_seq (pv 7) (pe_tup (pa_cons (pe_gint rfl T.c_BLANK) (pa_cons (pe_gint rfl T.c_LINE) pa_nil))) (by with_unfolding_all rfl)) (pss_one (ps_expr (pe_meth0 (pv 4) T.cl_Pen T.m_Pen_take_blank (ok_Pen_take_blank T) (hr.mono (by decide)) T.b_Pen_take_blank .nil pass0))) pss_nil)))))))) (pss_one (ps_ret (pv 5)))))))), ?_⟩
  refine ⟨_, rfl, a, _, dx, _, _, rfl, L.at_, T.cl_Laying, T.n_Laying_document, rfl, doc, _, ddx, _, _, rfl, L.base _ _ hdoc, T.cl_Document, T.n_Document_parts, rfl, ?_⟩
  refine ⟨_, rfl, _, rfl, a, _, dx, _, _, rfl, L.at_, T.cl_Laying, T.n_Laying_document, rfl, doc, _, ddx, _, _, rfl, L.base _ _ hdoc, T.cl_Document, T.n_Document_spans, rfl, _, rfl, sl, _, _, _, rfl, rfl, SqL.of (L.base _ _ hsl), atI_nat (intsV_get (sizes_get he)), _, _, rfl, rfl, ?_⟩
  refine ⟨_, rfl, a, _, dx, _, _, rfl, L.at_, T.cl_Laying, T.n_Laying_pen, rfl, pen, dp, _, rfl, hp, rfl, pen, dp, _, _, rfl, hp, fun H1 b db nb s1 hb => ?_⟩
  have b1 := L.base.trans s1
  refine ⟨_, rfl, _, _, rfl, rfl, _, rfl, pl, _, rfl, .inl (SqL.of (b1 _ _ hpll)), (n : Int) + 1, ((as.map V.ref).length : Int), rfl, ⟨by omega, by omega, by omega, by omega⟩, ?_⟩
  have en : (((as.map V.ref).length : Int) - ((n : Int) + 1)).toNat = root.size - (n + 1) := by omega
  rw [en]
  refine for_range (lo := (n : Int) + 1) (n := root.size - (n + 1)) (fun i σ H' => ∃ (v5 v6 : Option V) (c : Nat) (h : Held) (acc : Nat), σ = [some (.ref a), some (.int n), some (.ref pl), some (.int ((n : Int) + (e.size : Int))), some (.ref b), some (.int acc), v5, v6] ∧ H' b = some (penO A db c h) ∧ Same H H' ∧
   reachI (n + e.size) (n + 1 + i) c h acc ((subs root).drop (n + 1 + i)) = reachI (n + e.size) (n + 1) m.col m.held 0 ((subs root).drop (n + 1))) ⟨none, none, m.col, m.held, 0, rfl, hb, s1, rfl⟩ ?_ ?_
  ·rintro i σ H' hi ⟨v5, v6, c, h, acc, rfl, hb', s', ht⟩
   have b' := L.base.trans s'
   have hlt : n + 1 + i < (subs root).length := by
    rw [subs_length]
    omega
   have hu : (subs root)[n + 1 + i]? = some ((subs root)[n + 1 + i]'hlt) := List.getElem?_eq_getElem hlt
   rw [List.drop_eq_getElem_cons hlt] at ht
   generalize (subs root)[n + 1 + i]'hlt = u at hu ht
   obtain ⟨bs, pa, hpl2, hpa, dxp, tp, hpp2, _⟩ := hpl.get (raw_get hu)
   have ez : (n : Int) + 1 + (i : Int) = ((n + 1 + i : Nat) : Int) := by omega
   rw [ez]
   refine ⟨_, rfl, _, rfl, pl, _, _, _, rfl, rfl, SqL.of (b' _ _ hpl2), atI_nat hpa, pa, _, dxp, _, _, rfl, b' _ _ hpp2, T.cl_Part, T.n_Part_kind, rfl, ?_⟩
   have nxt : ∀ (v5 v6 : Option V) (c2 : Nat) (h2 : Held) (acc2 : Nat) (H2 : Hp), H2 b = some (penO A db c2 h2) → Same H H2 → reachI (n + e.size) (n + 1 + i + 1) c2 h2 acc2 ((subs root).drop (n + 1 + i + 1)) = reachI (n + e.size) (n + 1) m.col m.held 0 ((subs root).drop (n + 1)) →
     ∃ (v5' v6' : Option V) (c : Nat) (h : Held) (acc : Nat), [some (.ref a), some (.int n), some (.ref pl), some (.int ((n : Int) + (e.size : Int))), some (.ref b), some (.int acc2), v5, v6] = [some (.ref a), some (.int n), some (.ref pl), some (.int ((n : Int) + (e.size : Int))), some (.ref b), some (.int acc), v5', v6'] ∧ H2 b = some (penO A db c h) ∧ Same H H2 ∧
      reachI (n + e.size) (n + 1 + (i + 1)) c h acc ((subs root).drop (n + 1 + (i + 1))) = reachI (n + e.size) (n + 1) m.col m.held 0 ((subs root).drop (n + 1)) := fun v5 v6 c2 h2 acc2 H2 e1 e2 e3 => ⟨v5, v6, c2, h2, acc2, rfl, e1, e2, e3⟩
   rw [reachI_cons] at ht
   refine ⟨_, rfl, rfl, _, rfl, ite_eqI (fun hk => ?_) (fun hk => ?_)⟩
   ·rw [if_pos hk] at ht
    obtain ⟨tx, rfl⟩ : ∃ tx, u = .text tx := by
     cases u with
     | text tx => exact ⟨tx, rfl⟩
     | mark k => cases k <;> cases hk
     | _ => cases hk
    have etl : textLen (.text tx) = tx.length := ints_length tx
    rw [etl] at ht
    refine ⟨_, rfl, b, db, _, rfl, hb', rfl, _, rfl, _, rfl, pl, _, _, _, rfl, rfl, SqL.of (b' _ _ hpl2), atI_nat hpa, pa, _, dxp, _, _, rfl, b' _ _ hpp2, T.cl_Part, T.n_Part_number, rfl, b, db, c, tx.length, h, rfl, hb', fun H2 hb2 k2 => ?_⟩
    have s2 : Same H H2 := k2.same s' nb
    exact ⟨_, rfl, b, _, db, _, _, rfl, hb2, T.cl_Pen, T.n_Pen_column, rfl, nxt _ _ _ _ _ _ hb2 s2 ht⟩
   ·rw [if_neg hk] at ht
    refine ⟨_, rfl, _, rfl, _, _, rfl, rfl, _, rfl, ite_dec (fun hg => ?_) (fun hg => ?_)⟩
    ·refine ⟨_, rfl, (by show 4 ≤ sizeLine; decide), fun t1 nt1 => ?_⟩
     have s2 := s'.trans (same_upd (o := .tup [.int 2, .int 3, .int 4, .int 5]) nt1)
     have hb2 := same_upd (o := .tup [.int 2, .int 3, .int 4, .int 5]) nt1 _ _ hb'
     refine ⟨t1, [.int 2, .int 3, .int 4, .int 5], rfl, .inr (SqT.of upd_same), rfl, rfl, _, rfl, ite_in [2, 3, 4, 5] (fun hm => ?_) (fun hm => ?_)⟩
     ·rw [if_pos ⟨by omega, by simpa using hm⟩] at ht
      refine ⟨_, rfl, ?_⟩
      show Q (.int (acc : Nat)) _
      rw [ht]
      exact q _ s2
     ·rw [if_neg fun z => hm (by simpa using z.2)] at ht
      refine ⟨_, rfl, (by show 2 ≤ sizeLine; decide), fun t2 nt2 => ?_⟩
      have s3 := s2.trans (same_upd (o := .tup [.int 1, .int 3]) nt2)
      have hb3 := same_upd (o := .tup [.int 1, .int 3]) nt2 _ _ hb2
      refine ⟨t2, [.int 1, .int 3], rfl, .inr (SqT.of upd_same), rfl, rfl, _, rfl, ite_in [1, 3] (fun hm => ?_) (fun hm => ?_)⟩
      ·rw [if_pos (by simpa using hm)] at ht
       refine ⟨_, rfl, b, db, _, rfl, hb3, rfl, b, db, _, _, rfl, hb3, fun H4 hb4 k4 => ?_⟩
       exact nxt _ _ _ _ _ _ hb4 (k4.same s3 nb) ht
      ·rw [if_neg (by simpa using hm)] at ht
       exact nxt _ _ _ _ _ _ hb3 s3 ht
    ·refine iteF ?_
     rw [if_neg fun z => hg (by omega)] at ht
     refine ⟨_, rfl, (by show 2 ≤ sizeLine; decide), fun t2 nt2 => ?_⟩
     have s3 := s'.trans (same_upd (o := .tup [.int 1, .int 3]) nt2)
     have hb3 := same_upd (o := .tup [.int 1, .int 3]) nt2 _ _ hb'
     refine ⟨t2, [.int 1, .int 3], rfl, .inr (SqT.of upd_same), rfl, rfl, _, rfl, ite_in [1, 3] (fun hm => ?_) (fun hm => ?_)⟩
     ·rw [if_pos (by simpa using hm)] at ht
      refine ⟨_, rfl, b, db, _, rfl, hb3, rfl, b, db, _, _, rfl, hb3, fun H4 hb4 k4 => ?_⟩
      exact nxt _ _ _ _ _ _ hb4 (k4.same s3 nb) ht
     ·rw [if_neg (by simpa using hm)] at ht
      exact nxt _ _ _ _ _ _ hb3 s3 ht
  ·rintro σ H' ⟨v5, v6, c, h, acc, rfl, hb', s', ht⟩
   rw [show n + 1 + (root.size - (n + 1)) = root.size by omega, List.drop_eq_nil_of_le (by rw [subs_length]; omega)] at ht
   have ht' : acc = reachI (n + e.size) (n + 1) m.col m.held 0 ((subs root).drop (n + 1)) := ht
   refine ⟨_, rfl, ?_⟩
   show Q (.int (acc : Nat)) H'
   rw [ht']
   exact q _ s'
theorem ok_Laying_fits (T : Tx A K mg) : FnOk P w K mg base CX0 5 A.f_Laying_fits A.fd_Laying_fits ["self", "place"] (sp_Laying_fits A) := by
 have nd := sc_Laying_fits.nd
 refine T.F_Laying_fits.ok sc_Laying_fits (fun vs H Q E h => ?_) (fun cdv Ar outer s H vs Q E hr h => ?_)
 ·obtain ⟨H0, a, dx, doc, pen, wr, fg, cm, ln, fo, ex, root, e, w, n, k, m, l, rc, rfl, _⟩ := h
  rfl
 ·obtain ⟨H0, a, dx, doc, pen, wr, fg, cm, ln, fo, ex, root, e, w, n, k, m, l, rc, rfl, L, he, hsz, hrc, hle, hwv, q⟩ := h
  refine ⟨_, (pss_cons (ps_set (i := 2) nd rfl (by first | exact Or.inl rfl | exact Or.inr rfl) (pe_meth (pv 0) T.cl_Laying T.m_Laying_find_reach (ok_Laying_find_reach T) (hr.mono (by decide)) T.b_Laying_find_reach .nil pass0 (pa_cons (pv 1) pa_nil))) (pss_cons (ps_fld (pv 0) (pe_callB (call_max2 rfl) rfl T.b_max boot_max (pa_cons (pe_fld (pv 0) rfl) (pa_cons (pv 2) pa_nil))) rfl) (pss_one (ps_ret (pe_or (pe_cmpR op_isN (pe_fld (pv 0) rfl) pe_non (nomark _)) (pe_one (pe_cmpR op_le (pv 2) (pe_fld (pv 0) rfl) (nomark _)))))))), ?_⟩
  refine ⟨_, rfl, a, dx, _, rfl, L.at_, rfl, _, rfl, H0, a, dx, doc, pen, wr, fg, cm, ln, fo, ex, root, e, w, n, k, m, l, rfl, L, he, hsz, fun H1 s1 => ?_⟩
  rw [← hrc]
  have L1 := L.mono s1
  refine ⟨_, rfl, a, _, dx, _, _, rfl, L1.at_, T.cl_Laying, T.n_Laying_greatest_reach, rfl, _, rfl, _, _, rfl, _, rfl, a, _, dx, _, rfl, L1.at_, T.cl_Laying, T.n_Laying_greatest_reach, (by show 9 < 1000; decide), ?_⟩
  have em : (if (rc : Int) > (ex.gr : Int) then (rc : Int) else (ex.gr : Int)) = ((max ex.gr rc : Nat) : Int) := by
   by_cases h : (rc : Int) > (ex.gr : Int)
   ·rw [if_pos h, Nat.max_eq_right (by omega)]
   ·rw [if_neg h, Nat.max_eq_left (by omega)]
  rw [em]
  have L2 := L1.exed (y := { ex with gr := max ex.gr rc }) rfl rfl
  have k2 : But a H (upd H1 a (.ins A.C_Laying dx (layF doc pen wr ln fg cm { ex with gr := max ex.gr rc }))) := fun b o e1 hb => by
   rw [upd_ne hb]
   exact s1 _ _ e1
  have e0 : putF "greatest_reach" (.int ((max ex.gr rc : Nat) : Int)) (layF doc pen wr ln fg cm ex) = layF doc pen wr ln fg cm { ex with gr := max ex.gr rc } := rfl
  rw [e0]
  generalize upd H1 a (.ins A.C_Laying dx (layF doc pen wr ln fg cm { ex with gr := max ex.gr rc })) = H2 at L2 k2 ⊢
  refine ⟨_, rfl, a, _, dx, _, _, rfl, L2.at_, T.cl_Laying, T.n_Laying_width, rfl, rfl, _, rfl, ?_⟩
  rcases hwv with hv | ⟨hv, hw⟩
  ·have e1 : decide (ex.wv = .non) = false := by
    rw [hv]
    rfl
   show if decide (ex.wv = .non) = true then _ else _
   rw [e1]
   refine iteF ⟨_, rfl, _, rfl, a, _, dx, _, _, rfl, L2.at_, T.cl_Laying, T.n_Laying_width, rfl, ?_⟩
   show ∃ i j, V.int rc = .int i ∧ ex.wv = .int j ∧ _
   refine ⟨_, _, rfl, hv, ?_⟩
   have e2 : decide ((rc : Int) ≤ (w : Int)) = decide (rc ≤ w) := by
    rw [decide_eq_decide]
    omega
   show Q (.bl (decide ((rc : Int) ≤ (w : Int)))) H2
   rw [e2]
   exact q H2 L2 k2
  ·have e1 : decide (ex.wv = .non) = true := by
    rw [hv]
    rfl
   show if decide (ex.wv = .non) = true then _ else _
   rw [e1]
   refine iteT ?_
   have e2 : decide (rc ≤ w) = true := decide_eq_true (by omega)
   rw [e2] at q
   exact q H2 L2 k2
end
end WL
set_option Elab.async false
set_option linter.all false
set_option maxRecDepth 100000
set_option maxHeartbeats 2000000
namespace WL
open PySem PySem.Spec PyProof.Rows L2
open Vafmtb (Doc Held Cmd Mach placeOf blankComes breakComes gapComes heldNumber heldAtOf step1 stepsOf put)
structure LayOk (A : Ad) (H0 H : Hp) (a dx doc pen wr fg cm ln fo : Addr) (wv : V) (gr : Nat) (root : Doc) (w n : Nat) (m : Mach) : Prop where
 lay : LayW A H0 H a dx doc pen wr fg cm ln fo ⟨wv, gr, n, m.met, Vafmtb.rowsOf m⟩ root w n m m.cmds
 goes : Goes root n m
 bnd : Bnd root n m
 good : Good root
 rz : RowZ m
 wval : WVal w wv
 few : (Vafmtb.rowsOf m).length ≤ 2 * n
 mds : m.modes.length ≤ n
theorem cmds_few {root : Doc} {n : Nat} {m : Mach} (g : Goes root n m) (hs : root.size ≤ 600) : m.cmds.length ≤ 600 := by
 have h1 : ∀ l : List Cmd, l.length ≤ (cmdParts l).length := by
  intro l
  induction l with
  | nil => exact Nat.le_refl _
  | cons c r ih =>
   rw [cmdParts_cons, List.length_cons, List.length_cons, List.length_append]
   omega
 have h2 := h1 m.cmds
 rw [g.parts, List.length_drop, subs_length] at h2
 omega
def sp_Laying_step_group (A : Ad) : Sp := fun vs H Q _ => ∃ (H0 : Hp) (a dx doc pen wr fg cm ln fo c : Addr) (ex : Ex) (root d : Doc) (w n : Nat) (m : Mach) (r : List Cmd) (x : Cmd), vs = [.ref a, .ref c] ∧ LayW A H0 H a dx doc pen wr fg cm ln fo ex root w (n + x.doc.size) m r ∧ CmdAt A H c (n, x) ∧ m.cmds = x :: r ∧ x.doc = .group d ∧
 Goes root n m ∧ root.size ≤ 600 ∧ m.modes.length ≤ 1000 ∧ WVal w ex.wv ∧ Vafmtb.ahead m x.ind d r ≤ 9400 ∧ ∀ H', LayW A H0 H' a dx doc pen wr fg cm ln fo { ex with gr := grStep m ex.gr } root w (n + 1) (step1 w m) (step1 w m).cmds → Q .non H'
def sp_Laying_step (A : Ad) : Sp := fun vs H Q _ => ∃ (H0 : Hp) (a dx doc pen wr fg cm ln fo : Addr) (wv : V) (gr : Nat) (root : Doc) (w n : Nat) (m : Mach), vs = [.ref a] ∧ LayOk A H0 H a dx doc pen wr fg cm ln fo wv gr root w n m ∧ m.cmds ≠ [] ∧
 ∀ H', LayOk A H0 H' a dx doc pen wr fg cm ln fo wv (grStep m gr) root w (n + 1) (step1 w m) → Q .non H'
section
variable {P : Program} {w : World} {K : PySem.W.Frag} {mg : Str → Option Value} {base : Heap} {A : Ad}
theorem gr_not {m : Mach} {x : Cmd} {r : List Cmd} {g : Nat} (hm : m.cmds = x :: r) (h : ∀ d, x.doc = .group d → x.flat = true ∨ d.forced = true) : grStep m g = g := by
 unfold grStep
 rw [hm]
 obtain ⟨xi, xf, xd⟩ := x
 cases xd with
 | group d => exact if_pos (h d rfl)
 | _ => rfl
theorem rows_few {m : Mach} {t : Vafmtb.Bytes} {n : Nat} (z : RowZ m) (hl : 1 ≤ t.length) (h : (Vafmtb.rowsOf m).length ≤ 2 * n) : (Vafmtb.rowsOf (Vafmtb.write m t)).length ≤ 2 * (n + 1) := by
 rw [(rows_write z hl).1]
 unfold textRows
 split
 ·rw [List.length_append, List.length_append]
  split <;> simp <;> omega
 ·rw [List.length_append, List.length_dropLast]
  split <;> simp <;> omega
theorem ok_Laying_step_group (T : Tx A K mg) : FnOk P w K mg base CX0 6 A.f_Laying_step_group A.fd_Laying_step_group ["self", "command"] (sp_Laying_step_group A) := by
 have nd := sc_Laying_step_group.nd
 refine T.F_Laying_step_group.ok sc_Laying_step_group (fun vs H Q E h => ?_) (fun cdv Ar outer s H vs Q E hr h => ?_)
 ·obtain ⟨H0, a, dx, doc, pen, wr, fg, cm, ln, fo, c, ex, root, d, w, n, m, r, x, rfl, _⟩ := h
  rfl
 ·obtain ⟨H0, a, dx, doc, pen, wr, fg, cm, ln, fo, c, ex, root, d, w, n, m, r, x, rfl, L, hc, hm, hd, g, hsz, hmo, hwv, hle, q⟩ := h
  obtain ⟨dc, hcc⟩ := id hc
  obtain ⟨ddx, pl, sl, dl, fl, hdoc, hpl, hsl, hdl, hfl⟩ := L.docA
  obtain ⟨he, hn⟩ := g.first hm
  have few := cmds_few g hsz
  rw [hm, List.length_cons] at few
  refine ⟨_, (pss_cons (ps_set (i := 2) nd rfl (by first | exact Or.inl rfl | exact Or.inr rfl) (pe_fld (pv 1) rfl)) (pss_cons (ps_set (i := 3) nd rfl (by first | exact Or.inl rfl | exact Or.inr rfl) (pe_or (pe_fld (pv 1) rfl) (pe_one (pe_and (pe_not (pe_ix ix_list (pe_fld (pe_fld (pv 0) rfl) rfl) (pv 2) (fun _ _ => rfl))) (pe_one (pe_meth (pv 0) T.cl_Laying T.m_Laying_fits (ok_Laying_fits T) (hr.mono (by decide)) T.b_Laying_fits .nil pass0 (pa_cons (pv 2) pa_nil))))))) (pss_cons (ps_expr (pe_bm PySem.F.plainAttrs_list PySem.F.slot_list_append PySem.F.type_list_append mt_append (pe_fld (pv 0) rfl) (pa_cons (pe_ifExp (pt_truth (pv 3) (fun _ => rfl)) pe_int pe_int) pa_nil))) (pss_one (ps_expr (pe_meth (pv 0) T.cl_Laying T.m_Laying_go_inside (ok_Laying_go_inside T) (hr.mono (by decide)) T.b_Laying_go_inside .nil pass0 (pa_cons (pv 1) (pa_cons (pe_fld (pv 1) rfl) (pa_cons (pv 3) pa_nil))))))))), ?_⟩
  refine ⟨_, rfl, c, _, dc, _, _, rfl, hcc, T.cl_Command, T.n_Command_place, rfl, ?_⟩
  have fin : ∀ (H1 : Hp) (f : Bool), LayW A H0 H1 a dx doc pen wr fg cm ln fo { ex with gr := grStep m ex.gr } root w (n + x.doc.size) m r → H1 c = some (.ins A.C_Command dc (cmdF n x.ind x.flat)) → f = (x.flat || (!d.forced && Vafmtb.fits w m x.ind d r)) →
    tSeq (tDrop (tBM K "list" rAppend (tFld K (tVar 0) "flat_groups") (tCons (tIf (fun σ H Q => tVar 3 σ H fun x H' => ∃ k, TruV K x H' k ∧ Q k H') (tC (.int 1)) (tC (.int 0))) tNil)))
     (tDrop (tMeth A.C_Laying "go_inside" (sp_Laying_go_inside A) [] E0 (tVar 0) (tCons (tVar 1) (tCons (tFld K (tVar 1) "indent") (tCons (tVar 3) tNil))))) { nx := fun _ H' => Q .non H', rt := Q } [some (.ref a), some (.ref c), some (.int n), some (.bl f)] H1 := by
   intro H1 f L1 hc1 ef
   refine ⟨_, rfl, a, _, dx, _, _, rfl, L1.at_, T.cl_Laying, T.n_Laying_flat_groups, rfl, .inl ⟨rfl, _, SqL.of L1.fg_⟩, _, rfl, _, rfl, ?_⟩
   have app : ∀ z : Int, z = (if f = true then 1 else 0) → ∃ (l : Addr) (xs : List V) (y : V), V.ref fg = .ref l ∧ [V.int z] = [y] ∧ H1 l = some (.lst xs) ∧ xs.length < sizeLine ∧
     tDrop (tMeth A.C_Laying "go_inside" (sp_Laying_go_inside A) [] E0 (tVar 0) (tCons (tVar 1) (tCons (tFld K (tVar 1) "indent") (tCons (tVar 3) tNil)))) { nx := fun _ H' => Q .non H', rt := Q } [some (.ref a), some (.ref c), some (.int n), some (.bl f)] (upd H1 l (.lst (xs ++ [y]))) := by
    intro z hz
    refine ⟨fg, _, _, rfl, rfl, L1.fg_, ?_, ?_⟩
    ·rw [intsV_length, List.length_map, List.length_reverse]
     exact Nat.lt_of_lt_of_le (m := 2000) (by omega) (line_le (by omega))
    have e1 : intsV (m.modes.reverse.map fun b => if b = true then 1 else 0) ++ [V.int z] = intsV ((f :: m.modes).reverse.map fun b => if b = true then 1 else 0) := by
     rw [List.reverse_cons, List.map_append, intsV_append, hz]
     rfl
    rw [e1]
    have L2 := L1.moded (f :: m.modes)
    have hc2 : (upd H1 fg (.lst (intsV ((f :: m.modes).reverse.map fun b => if b = true then 1 else 0)))) c = some (.ins A.C_Command dc (cmdF n x.ind x.flat)) := by
     rw [upd_ne (ne_of hc1 L1.fg_ (by intro z; cases z))]
     exact hc1
    generalize upd H1 fg (.lst (intsV ((f :: m.modes).reverse.map fun b => if b = true then 1 else 0))) = H2 at L2 hc2 ⊢
    refine ⟨_, rfl, a, dx, _, rfl, L2.at_, rfl, _, rfl, _, rfl, c, _, dc, _, _, rfl, hc2, T.cl_Command, T.n_Command_indent, rfl, _, rfl, H0, a, dx, doc, pen, wr, fg, cm, ln, fo, c, _, root, w, n, x.ind, f, _, r, x, rfl, L2, ⟨dc, hc2⟩, he, hsz, ?_, fun H3 L3 => ?_⟩
    ·rw [hd]
     show 1 + r.length ≤ 2000
     omega
    ·have e2 : step1 w m = { m with cmds := { x with flat := x.flat || (!d.forced && Vafmtb.fits w m x.ind d r), doc := d } :: r, modes := (x.flat || (!d.forced && Vafmtb.fits w m x.ind d r)) :: m.modes } := by
      unfold step1
      rw [hm]
      obtain ⟨xi, xf, xd⟩ := x
      have hd' : xd = .group d := hd
      subst hd'
      rfl
     rw [e2] at q
     rw [← ef] at q
     rw [hd] at L3
     exact q H3 (L3.congr rfl rfl rfl rfl)
   cases f with
   | true => exact iteT (app 1 rfl)
   | false => exact iteF (app 0 rfl)
  refine ⟨_, rfl, c, _, dc, _, _, rfl, hcc, T.cl_Command, T.n_Command_flat, rfl, _, rfl, ?_⟩
  cases hx : x.flat with
  | true =>
   have eg : grStep m ex.gr = ex.gr := gr_not hm (fun d' _ => .inl hx)
   exact iteT (fin H true (by rw [eg]; exact L) hcc (by rw [hx]; rfl))
  | false =>
   refine iteF ?_
   have hf := forceds_get he
   refine ⟨_, rfl, a, _, dx, _, _, rfl, L.at_, T.cl_Laying, T.n_Laying_document, rfl, doc, _, ddx, _, _, rfl, L.base _ _ hdoc, T.cl_Document, T.n_Document_forced, rfl, _, rfl, fl, _, _, _, rfl, rfl, SqL.of (L.base _ _ hfl), atI_nat hf, _, rfl, _, rfl, ?_⟩
   have ed : x.doc.forced = d.forced := by
    rw [hd]
    rfl
   rw [ed]
   cases hdf : d.forced with
   | true =>
    have eg : grStep m ex.gr = ex.gr := gr_not hm (fun d' e => .inr (by rw [hd] at e; injection e with e; rw [← e]; exact hdf))
    exact iteF (fin H false (by rw [eg]; exact L) hcc (by rw [hx, hdf]; rfl))
   | false =>
    refine iteT ?_
    have e3 := ahead_walk g hm hd hx hdf
    have eg : grStep m ex.gr = max ex.gr (Vafmtb.ahead m x.ind d r) := by
     unfold grStep
     rw [hm]
     simp only [hd]
     rw [if_neg (by rw [hx, hdf]; rintro (z | z) <;> cases z)]
    refine ⟨_, rfl, a, dx, _, rfl, L.at_, rfl, _, rfl, H0, a, dx, doc, pen, wr, fg, cm, ln, fo, ex, root, x.doc, w, n, _, m, r, _, rfl, L, he, hsz, e3, hle, hwv, fun H1 L1 k1 => ?_⟩
    refine fin H1 _ (by rw [eg]; exact L1) (k1 _ _ hcc (ne_of L.at_ hcc lay_cmd).symm) ?_
    rw [hx, hdf]
    rfl
theorem mark_ne (k : Vafmtb.Mark) : ¬ (raw (.mark k)).kind = 0 := by
 cases k <;> decide
theorem mark_le (k : Vafmtb.Mark) : (raw (.mark k)).kind ≤ 5 := by
 cases k <;> decide
theorem modes_step (w : Nat) (m : Mach) : (step1 w m).modes.length ≤ m.modes.length + 1 := by
 unfold step1
 split
 ·omega
 ·split
  ·rw [(write_col _ _).2.2]
   exact Nat.le_succ _
  all_goals first | exact Nat.le_succ _ | exact Nat.le_refl _ | (split <;> exact Nat.le_succ _)
theorem ok_Laying_step (T : Tx A K mg) : FnOk P w K mg base CX0 7 A.f_Laying_step A.fd_Laying_step ["self"] (sp_Laying_step A) := by
 have nd := sc_Laying_step.nd
 refine T.F_Laying_step.ok sc_Laying_step (fun vs H Q E h => ?_) (fun cdv Ar outer s H vs Q E hr h => ?_)
 ·obtain ⟨H0, a, dx, doc, pen, wr, fg, cm, ln, fo, wv, gr, root, w, n, m, rfl, _⟩ := h
  rfl
 ·obtain ⟨H0, a, dx, doc, pen, wr, fg, cm, ln, fo, wv, gr, root, w, n, m, rfl, O, hne, q⟩ := h
  have hmo := O.mds
  have hrf := O.few
  have L := O.lay
  have g := O.goes
  have hsz := O.good.size
  have few := cmds_few g hsz
  obtain ⟨ddx, pl, sl, dl, fl, hdoc, hpl, hsl, hdl, hfl⟩ := L.docA
  refine ⟨_, (pss_cons (ps_fldaug (pv 0) pe_int in_add) (pss_cons (ps_set (i := 1) nd rfl (by first | exact Or.inl rfl | exact Or.inr rfl) (pe_bm0 PySem.F.plainAttrs_list PySem.F.slot_list_pop PySem.F.type_list_pop mt_pop (pe_fld (pv 0) rfl))) (pss_cons (ps_set (i := 2) nd rfl (by first | exact Or.inl rfl | exact Or.inr rfl) (pe_ix ix_list (pe_fld (pe_fld (pv 0) rfl) rfl) (pe_fld (pv 1) rfl) (fun _ _ => rfl))) (pss_one (ps_if (pt_cmpR op_eq (pe_fld (pv 2) rfl) (pe_gint rfl T.c_TEXT) (nomark _)) (pss_one (ps_expr (pe_meth (pv 0) T.cl_Laying T.m_Laying_write (ok_Laying_write T) (hr.mono (by decide)) T.b_Laying_write .nil pass0 (pa_cons (pe_fld (pv 2) rfl) pa_nil)))) (pss_one (ps_if (pt_cmpR op_le (pe_fld (pv 2) rfl) (pe_gint rfl T.c_GAP) (nomark _)) (pss_one (ps_expr (pe_meth (pv 0) T.cl_Laying T.m_Laying_step_mark (ok_Laying_step_mark T) (hr.mono (by decide)) T.b_Laying_step_mark .nil pass0 (pa_cons (pe_fld (pv 2) rfl) (pa_cons (pv 1) pa_nil))))) (pss_one (ps_if (pt_cmpR op_eq (pe_fld (pv 2) rfl) (pe_gint rfl T.c_GROUP) (nomark _)) (pss_one (ps_expr (pe_meth (pv 0) T.cl_Laying T.m_Laying_step_group (ok_Laying_step_group T) (hr.mono (by decide)) T.b_Laying_step_group .nil pass0 (pa_cons (pv 1) pa_nil)))) (pss_one (ps_if (pt_cmpR op_eq (pe_fld (pv 2) rfl) (pe_gint rfl T.c_INDENTED) (nomark _)) (pss_one (ps_expr (pe_meth (pv 0) T.cl_Laying T.m_Laying_go_inside (ok_Laying_go_inside T) (hr.mono (by decide)) T.b_Laying_go_inside .nil pass0 (pa_cons (pv 1) (pa_cons (pe_op op_add (pe_fld (pv 1) rfl) (pe_fld (pv 2) rfl)) (pa_cons (pe_fld (pv 1) rfl) pa_nil)))))) (pss_one (ps_if (pt_cmpR op_eq (pe_fld (pv 2) rfl) (pe_gint rfl T.c_ALIGNED) (nomark _)) (pss_one (ps_expr (pe_meth (pv 0) T.cl_Laying T.m_Laying_go_inside (ok_Laying_go_inside T) (hr.mono (by decide)) T.b_Laying_go_inside .nil pass0 (pa_cons (pv 1) (pa_cons (pe_meth0 (pe_fld (pv 0) rfl) T.cl_Pen T.m_Pen_text_column (ok_Pen_text_column T) (hr.mono (by decide)) T.b_Pen_text_column .nil pass0) (pa_cons (pe_fld (pv 1) rfl) pa_nil)))))) (pss_one (ps_expr (pe_meth (pv 0) T.cl_Laying T.m_Laying_go_inside (ok_Laying_go_inside T) (hr.mono (by decide)) T.b_Laying_go_inside .nil pass0 (pa_cons (pv 1) (pa_cons (pe_fld (pv 1) rfl) (pa_cons (pe_fld (pv 1) rfl) pa_nil))))))))))))))))))), ?_⟩
  cases hm : m.cmds with
  | nil => exact absurd hm hne
  | cons x r =>
   rw [hm] at L few
   rw [List.length_cons] at few
   obtain ⟨he, hn⟩ := g.first hm
   have L0 := L.exed (y := ⟨wv, gr, n + 1, m.met, Vafmtb.rowsOf m⟩) rfl rfl
   refine ⟨_, rfl, a, _, dx, _, _, rfl, L.at_, T.cl_Laying, T.n_Laying_taken, rfl, _, _, rfl, rfl, dx, _, L.at_, (by show 9 < 1000; decide), ?_⟩
   have e0 : putF "taken" (.int ((n : Int) + 1)) (layF doc pen wr ln fg cm ⟨wv, gr, n, m.met, Vafmtb.rowsOf m⟩) = layF doc pen wr ln fg cm ⟨wv, gr, n + 1, m.met, Vafmtb.rowsOf m⟩ := rfl
   rw [e0]
   clear e0 L
   generalize upd H a (.ins A.C_Laying dx (layF doc pen wr ln fg cm ⟨wv, gr, n + 1, m.met, Vafmtb.rowsOf m⟩)) = Ha at L0 ⊢
   obtain ⟨X, eX⟩ : ∃ X : Ex, X = ⟨wv, gr, n + 1, m.met, Vafmtb.rowsOf m⟩ := ⟨_, rfl⟩
   rw [← eX] at L0
   obtain ⟨cs, hcm, hcs⟩ := id L0.cm_
   cases hcs with
   | @cons c _ cs' _ h1 h2 =>
   obtain ⟨dc, hcc⟩ := id h1
   have erev : (c :: cs').reverse.map V.ref = cs'.reverse.map V.ref ++ [.ref c] := by
    rw [List.reverse_cons, List.map_append]
    rfl
   rw [erev] at hcm
   refine ⟨_, rfl, a, _, dx, _, _, rfl, L0.at_, T.cl_Laying, T.n_Laying_commands, rfl, .inl ⟨rfl, _, SqL.of hcm⟩, cm, _, _, rfl, rfl, hcm, by rw [List.length_append]; exact List.getElem?_concat_length, ?_⟩
   dsimp only [gName]
   rw [List.dropLast_concat]
   have hc2 : (upd Ha cm (.lst (cs'.reverse.map V.ref))) c = some (.ins A.C_Command dc (cmdF n x.ind x.flat)) := by
    rw [upd_ne (ne_of hcc hcm (by intro z; cases z))]
    exact hcc
   have L1 : LayW A H0 (upd Ha cm (.lst (cs'.reverse.map V.ref))) a dx doc pen wr fg cm ln fo X root w (n + x.doc.size) m r := by
    refine L0.cmded ⟨cs', upd_same, Paired.mapP h2 fun z y ⟨dz, e⟩ => ⟨dz, ?_⟩⟩
    rw [upd_ne (ne_of e hcm (by intro z; cases z))]
    exact e
   generalize upd Ha cm (.lst (cs'.reverse.map V.ref)) = H1 at hc2 L1 ⊢
   obtain ⟨bs, pa, hpl2, hpa, dxp, tp, hpp, htp⟩ := hpl.get (raw_get he)
   refine ⟨_, rfl, a, _, dx, _, _, rfl, L1.at_, T.cl_Laying, T.n_Laying_document, rfl, doc, _, ddx, _, _, rfl, L1.base _ _ hdoc, T.cl_Document, T.n_Document_parts, rfl, _, rfl, c, _, dc, _, _, rfl, hc2, T.cl_Command, T.n_Command_place, rfl, pl, _, _, _, rfl, rfl, SqL.of (L1.base _ _ hpl2), atI_nat hpa, ?_⟩
   have fin : ∀ (H2 : Hp) (Y : Ex), LayW A H0 H2 a dx doc pen wr fg cm ln fo Y root w (n + 1) (step1 w m) (step1 w m).cmds → Y = ⟨wv, grStep m gr, n + 1, (step1 w m).met, Vafmtb.rowsOf (step1 w m)⟩ → (Vafmtb.rowsOf (step1 w m)).length ≤ 2 * (n + 1) → Q .non H2 := fun H2 Y L2 e f =>
    q H2 ⟨by rw [← e]; exact L2, g.step w hne, O.bnd.step O.good g w hne, O.good, rowz_step O.good g O.rz w, O.wval, f, by have := modes_step w m; omega⟩
   have inside : ∀ (i : Nat) (f : Bool), step1 w m = { m with cmds := put i f (kids x.doc) r } → (∀ d, x.doc ≠ .group d) → (kids x.doc).length ≤ 600 → sp_Laying_go_inside A [.ref a, .ref c, .int i, .bl f] H1 (fun _ H' => Q .non H') E0 := fun i f e1 e3 e2 =>
    ⟨H0, a, dx, doc, pen, wr, fg, cm, ln, fo, c, X, root, w, n, i, f, m, r, x, rfl, L1, ⟨dc, hc2⟩, he, hsz, by omega, fun H2 L2 => fin H2 X (by rw [e1]; exact L2.congr rfl rfl rfl rfl) (by rw [eX, gr_not hm (fun d hd => absurd hd (e3 d)), e1]; rfl) (by rw [e1]; show (Vafmtb.rowsOf m).length ≤ _; omega)⟩
   have hkl := kids_le he
   have kind : ∀ {z : Int}, (raw x.doc).kind = z → True := fun _ => trivial
   obtain ⟨xi, xf, xd⟩ := x
   have hb := O.bnd
   have hbl := bnd_le O.good n
   cases xd with
   | text tx =>
    refine ⟨_, rfl, pa, _, dxp, _, _, rfl, L1.base _ _ hpp, T.cl_Part, T.n_Part_kind, rfl, rfl, _, rfl, ite_eqI (fun _ => ?_) (fun z => absurd rfl z)⟩
    have htl : tx.length ≤ 4000 := by
     have h5 : textLen (.text tx) ≤ root.bytes := text_le (d := root) (List.mem_of_getElem? he)
     have h6 : textLen (.text tx) = tx.length := ints_length tx
     have := O.good.bytes
     omega
    refine ⟨_, rfl, a, dx, _, rfl, L1.at_, rfl, _, rfl, pa, _, dxp, _, _, rfl, L1.base _ _ hpp, T.cl_Part, T.n_Part_text, rfl, H0, a, dx, doc, pen, wr, fg, cm, ln, fo, tp, X, root, w, _, m, r, tx, rfl, L1, htp, ?_, ?_, htl, ?_, fun H2 L2 => ?_⟩
    ·have := hb.held
     omega
    ·have := hb.out
     omega
    ·rw [eX]
     show (Vafmtb.rowsOf m).length ≤ 100000
     omega
    ·have e1 : step1 w m = Vafmtb.write { m with cmds := r } tx := by
      unfold step1
      rw [hm]
     have e2 : (Vafmtb.write { m with cmds := r } tx).cmds = r := by
      unfold Vafmtb.write
      cases m.held <;> rfl
     have hg := ((O.good.parts _ (List.mem_of_getElem? he)).txt rfl).2
     have htp1 : 1 ≤ tx.length := by
      rw [← ints_length]
      exact hg
     have z' : RowZ { m with cmds := r } := O.rz
     obtain ⟨w1, w2, w3⟩ := rows_write z' htp1
     refine fin H2 { X with rs := textRows X.rs X.wt (breaksOf m.held) (placeOf m.col m.held) tx.length, wt := 0 } ?_ ?_ (by rw [e1]; exact rows_few z' htp1 hrf)
     ·rw [e1, e2]
      obtain ⟨c1, c2, c3⟩ := write_col m tx
      obtain ⟨c4, c5, c6⟩ := write_col { m with cmds := r } tx
      obtain ⟨hbb, _, ho⟩ := held_rev m.held
      exact L2.congr (c4.trans c1.symm) (c5.trans c2.symm) ((ho { m with cmds := r } tx rfl).trans (ho m tx rfl).symm) (c6.trans c3.symm)
     ·rw [eX, gr_not hm (fun d hd => by cases hd), e1, w1, w2]
      rfl
   | mark k =>
    refine ⟨_, rfl, pa, _, dxp, _, _, rfl, L1.base _ _ hpp, T.cl_Part, T.n_Part_kind, rfl, rfl, _, rfl, ite_eqI (fun z => absurd z (mark_ne k)) (fun _ => ?_)⟩
    refine ⟨_, rfl, pa, _, dxp, _, _, rfl, L1.base _ _ hpp, T.cl_Part, T.n_Part_kind, rfl, _, _, rfl, rfl, _, rfl, ite_dec (fun _ => ?_) (fun z => absurd (mark_le k) z)⟩
    refine ⟨_, rfl, a, dx, _, rfl, L1.at_, rfl, _, rfl, pa, _, dxp, _, _, rfl, L1.base _ _ hpp, T.cl_Part, T.n_Part_kind, rfl, _, rfl, H0, a, dx, doc, pen, wr, fg, cm, ln, fo, c, X, root, w, _, m, r, (n, ⟨xi, xf, .mark k⟩), k, rfl, L1, ⟨dc, hc2⟩, fun H2 L2 => ?_⟩
    have e1 : (step1 w m).cmds = r ∧ (step1 w m).col = m.col ∧ (step1 w m).held = markHeld m xi xf k ∧ (step1 w m).out = m.out ∧ (step1 w m).modes = m.modes ∧ (step1 w m).met = markWt m.met xf k ∧ Vafmtb.rowsOf (step1 w m) = Vafmtb.rowsOf m := by
     unfold step1
     rw [hm]
     cases k with
     | blank => exact ⟨rfl, rfl, rfl, rfl, rfl, rfl, rfl⟩
     | hard => exact ⟨rfl, rfl, rfl, rfl, rfl, rfl, rfl⟩
     | gap => exact ⟨rfl, rfl, rfl, rfl, rfl, rfl, rfl⟩
     | soft => cases xf <;> exact ⟨rfl, rfl, rfl, rfl, rfl, rfl, rfl⟩
     | line => cases xf <;> exact ⟨rfl, rfl, rfl, rfl, rfl, rfl, rfl⟩
    obtain ⟨f1, f2, f3, f4, f5, f6, f7⟩ := e1
    refine fin H2 { X with wt := markWt X.wt xf k } ?_ ?_ (by rw [f7]; omega)
    ·rw [f1]
     exact L2.congr f2 f3 f4 f5
    ·rw [eX, gr_not hm (fun d hd => by cases hd), f6, f7]
   | group d =>
    refine ⟨_, rfl, pa, _, dxp, _, _, rfl, L1.base _ _ hpp, T.cl_Part, T.n_Part_kind, rfl, rfl, _, rfl, ite_eqI (fun z => absurd z (by show ¬ (9 : Int) = 0; decide)) (fun _ => ?_)⟩
    refine ⟨_, rfl, pa, _, dxp, _, _, rfl, L1.base _ _ hpp, T.cl_Part, T.n_Part_kind, rfl, _, _, rfl, rfl, _, rfl, ite_dec (fun z => absurd z (by show ¬ (9 : Int) ≤ 5; decide)) (fun _ => ?_)⟩
    refine ⟨_, rfl, pa, _, dxp, _, _, rfl, L1.base _ _ hpp, T.cl_Part, T.n_Part_kind, rfl, rfl, _, rfl, ite_eqI (fun _ => ?_) (fun z => absurd rfl z)⟩
    exact ⟨_, rfl, a, dx, _, rfl, L1.at_, rfl, _, rfl, H0, a, dx, doc, pen, wr, fg, cm, ln, fo, c, X, root, d, w, n, m, r, _, rfl, L1, ⟨dc, hc2⟩, hm, rfl, g, hsz, by omega, by rw [eX]; exact O.wval, ahead_le O.good g O.bnd hm rfl, fun H2 L2 => fin H2 _ L2 (by rw [eX]; unfold step1; rw [hm]; rfl) (by unfold step1; rw [hm]; show (Vafmtb.rowsOf m).length ≤ _; omega)⟩
   | indent k d =>
    refine ⟨_, rfl, pa, _, dxp, _, _, rfl, L1.base _ _ hpp, T.cl_Part, T.n_Part_kind, rfl, rfl, _, rfl, ite_eqI (fun z => absurd z (by show ¬ (7 : Int) = 0; decide)) (fun _ => ?_)⟩
    refine ⟨_, rfl, pa, _, dxp, _, _, rfl, L1.base _ _ hpp, T.cl_Part, T.n_Part_kind, rfl, _, _, rfl, rfl, _, rfl, ite_dec (fun z => absurd z (by show ¬ (7 : Int) ≤ 5; decide)) (fun _ => ?_)⟩
    refine ⟨_, rfl, pa, _, dxp, _, _, rfl, L1.base _ _ hpp, T.cl_Part, T.n_Part_kind, rfl, rfl, _, rfl, ite_eqI (fun z => absurd z (by show ¬ (7 : Int) = 9; decide)) (fun _ => ?_)⟩
    refine ⟨_, rfl, pa, _, dxp, _, _, rfl, L1.base _ _ hpp, T.cl_Part, T.n_Part_kind, rfl, rfl, _, rfl, ite_eqI (fun _ => ?_) (fun z => absurd rfl z)⟩
    refine ⟨_, rfl, a, dx, _, rfl, L1.at_, rfl, _, rfl, _, rfl, c, _, dc, _, _, rfl, hc2, T.cl_Command, T.n_Command_indent, rfl, _, rfl, pa, _, dxp, _, _, rfl, L1.base _ _ hpp, T.cl_Part, T.n_Part_number, rfl, _, _, rfl, rfl, _, rfl, c, _, dc, _, _, rfl, hc2, T.cl_Command, T.n_Command_flat, rfl, ?_⟩
    have := inside (xi + k) xf (by unfold step1; rw [hm]; rfl) (fun d' z => by cases z) (by omega)
    rw [show ((xi + k : Nat) : Int) = (xi : Int) + (k : Int) by omega] at this
    exact this
   | align d =>
    obtain ⟨dp, hp⟩ := L1.pen_
    refine ⟨_, rfl, pa, _, dxp, _, _, rfl, L1.base _ _ hpp, T.cl_Part, T.n_Part_kind, rfl, rfl, _, rfl, ite_eqI (fun z => absurd z (by show ¬ (8 : Int) = 0; decide)) (fun _ => ?_)⟩
    refine ⟨_, rfl, pa, _, dxp, _, _, rfl, L1.base _ _ hpp, T.cl_Part, T.n_Part_kind, rfl, _, _, rfl, rfl, _, rfl, ite_dec (fun z => absurd z (by show ¬ (8 : Int) ≤ 5; decide)) (fun _ => ?_)⟩
    refine ⟨_, rfl, pa, _, dxp, _, _, rfl, L1.base _ _ hpp, T.cl_Part, T.n_Part_kind, rfl, rfl, _, rfl, ite_eqI (fun z => absurd z (by show ¬ (8 : Int) = 9; decide)) (fun _ => ?_)⟩
    refine ⟨_, rfl, pa, _, dxp, _, _, rfl, L1.base _ _ hpp, T.cl_Part, T.n_Part_kind, rfl, rfl, _, rfl, ite_eqI (fun z => absurd z (by show ¬ (8 : Int) = 7; decide)) (fun _ => ?_)⟩
    refine ⟨_, rfl, pa, _, dxp, _, _, rfl, L1.base _ _ hpp, T.cl_Part, T.n_Part_kind, rfl, rfl, _, rfl, ite_eqI (fun _ => ?_) (fun z => absurd rfl z)⟩
    exact ⟨_, rfl, a, dx, _, rfl, L1.at_, rfl, _, rfl, _, rfl, a, _, dx, _, _, rfl, L1.at_, T.cl_Laying, T.n_Laying_pen, rfl, pen, dp, _, rfl, hp, rfl, pen, dp, _, _, rfl, hp, _, rfl, c, _, dc, _, _, rfl, hc2, T.cl_Command, T.n_Command_flat, rfl, inside (placeOf m.col m.held) xf (by unfold step1; rw [hm]; rfl) (fun d' z => by cases z) (by omega)⟩
   | row l =>
    refine ⟨_, rfl, pa, _, dxp, _, _, rfl, L1.base _ _ hpp, T.cl_Part, T.n_Part_kind, rfl, rfl, _, rfl, ite_eqI (fun z => absurd z (by show ¬ (6 : Int) = 0; decide)) (fun _ => ?_)⟩
    refine ⟨_, rfl, pa, _, dxp, _, _, rfl, L1.base _ _ hpp, T.cl_Part, T.n_Part_kind, rfl, _, _, rfl, rfl, _, rfl, ite_dec (fun z => absurd z (by show ¬ (6 : Int) ≤ 5; decide)) (fun _ => ?_)⟩
    refine ⟨_, rfl, pa, _, dxp, _, _, rfl, L1.base _ _ hpp, T.cl_Part, T.n_Part_kind, rfl, rfl, _, rfl, ite_eqI (fun z => absurd z (by show ¬ (6 : Int) = 9; decide)) (fun _ => ?_)⟩
    refine ⟨_, rfl, pa, _, dxp, _, _, rfl, L1.base _ _ hpp, T.cl_Part, T.n_Part_kind, rfl, rfl, _, rfl, ite_eqI (fun z => absurd z (by show ¬ (6 : Int) = 7; decide)) (fun _ => ?_)⟩
    refine ⟨_, rfl, pa, _, dxp, _, _, rfl, L1.base _ _ hpp, T.cl_Part, T.n_Part_kind, rfl, rfl, _, rfl, ite_eqI (fun z => absurd z (by show ¬ (6 : Int) = 8; decide)) (fun _ => ?_)⟩
    exact ⟨_, rfl, a, dx, _, rfl, L1.at_, rfl, _, rfl, _, rfl, c, _, dc, _, _, rfl, hc2, T.cl_Command, T.n_Command_indent, rfl, _, rfl, c, _, dc, _, _, rfl, hc2, T.cl_Command, T.n_Command_flat, rfl, inside xi xf (by unfold step1; rw [hm]; rfl) (fun d' z => by cases z) (by have hkl' : l.length ≤ root.size := hkl; show l.length ≤ 600; omega)⟩
end
end WL
set_option Elab.async false
set_option linter.all false
set_option maxRecDepth 100000
set_option maxHeartbeats 2000000
namespace WL
open PySem PySem.Spec PyProof.Rows L2
open Vafmtb (Doc Held Cmd Mach placeOf blankComes breakComes gapComes heldNumber heldAtOf step1 stepsOf put)
theorem DocAt.hide {A : Ad} {H : Hp} {a C dx b : Addr} {d : Doc} (h : DocAt A H b d) (ha : H a = some (.ins C dx [])) : DocAt A (hide H a) b d := by
 obtain ⟨dy, pl, sl, dl, fl, h1, h2, h3, h4, h5⟩ := h
 exact ⟨dy, pl, sl, dl, fl, hide_some h1 ha (by intro z; cases z), h2.hide ha, hide_some h3 ha (by intro z; cases z), hide_some h4 ha (by intro z; cases z), hide_some h5 ha (by intro z; cases z)⟩
def begunF (f : Bool) (d : Doc) : Mach := { cmds := [{ ind := 0, flat := f, doc := d }] }
theorem kind_raw (d : Doc) : (raw d).kind = (d.kind : Int) := by
 cases d with
 | mark k => cases k <;> rfl
 | _ => rfl
def firstNums (m : Mach) : List Int := match m.cmds with
 | [] => []
 | c :: _ => [(c.doc.kind : Int), (c.ind : Int), if c.flat = true then 1 else 0]
def sp_Laying_finish (A : Ad) : Sp := fun vs H Q _ => ∃ (H0 : Hp) (a dx doc pen wr fg cm ln fo : Addr) (wv : V) (gr : Nat) (root : Doc) (w : Nat) (m : Mach), vs = [.ref a] ∧ LayOk A H0 H a dx doc pen wr fg cm ln fo wv gr root w 0 m ∧
 ∀ H', LayOk A H0 H' a dx doc pen wr fg cm ln fo wv (grOf w root.size m gr) root w root.size (stepsOf w root.size m) → Q .non H'
def sp_Laying_advance (A : Ad) : Sp := fun vs H Q _ => ∃ (H0 : Hp) (a dx doc pen wr fg cm ln fo : Addr) (wv : V) (gr : Nat) (root : Doc) (w n k : Nat) (m : Mach), vs = [.ref a, .int k] ∧ LayOk A H0 H a dx doc pen wr fg cm ln fo wv gr root w n m ∧ n ≤ root.size ∧
 ∀ H' gr', LayOk A H0 H' a dx doc pen wr fg cm ln fo wv gr' root w (n + min k (root.size - n)) (stepsOf w (min k (root.size - n)) m) → Q .non H'
def sp_Laying_tell_first (A : Ad) : Sp := fun vs H Q _ => ∃ (H0 : Hp) (a dx doc pen wr fg cm ln fo : Addr) (wv : V) (gr : Nat) (root : Doc) (w n : Nat) (m : Mach), vs = [.ref a] ∧ LayOk A H0 H a dx doc pen wr fg cm ln fo wv gr root w n m ∧ NewInts H (firstNums m) Q
def sp_Laying___init__ (A : Ad) : Sp := fun vs H Q _ => ∃ (a dx doc : Addr) (wv : V) (root : Doc) (w : Nat) (f : Bool), vs = [.ref a, .ref doc, wv, .bl f] ∧ WVal w wv ∧ H a = some (.ins A.C_Laying dx []) ∧ DocAt A H doc root ∧ Good root ∧
 ∀ H' pen wr fg cm ln fo, LayOk A (hide H a) H' a dx doc pen wr fg cm ln fo wv 0 root w 0 (begunF f root) → Q .non H'
def sp_lay_out (A : Ad) : Sp := fun vs H Q _ => ∃ (doc : Addr) (wv : V) (root : Doc) (w : Nat) (f : Bool), vs = [.ref doc, wv, .bl f] ∧ WVal w wv ∧ DocAt A H doc root ∧ Good root ∧
 ∀ H0 H' a dx pen wr fg cm ln fo, LayOk A H0 H' a dx doc pen wr fg cm ln fo wv (grOf w root.size (begunF f root) 0) root w root.size (stepsOf w root.size (begunF f root)) → Same H H' → H a = none → Q (.ref a) H'
def sp_least_width (A : Ad) : Sp := fun vs H Q _ => ∃ (doc : Addr) (root : Doc), vs = [.ref doc] ∧ DocAt A H doc root ∧ Good root ∧ ∀ H', Same H H' → Q (.int (Vafmtb.leastWidth root : Nat)) H'
section
variable {P : Program} {w : World} {K : PySem.W.Frag} {mg : Str → Option Value} {base : Heap} {A : Ad}
theorem ok_Laying_finish (T : Tx A K mg) : FnOk P w K mg base CX0 8 A.f_Laying_finish A.fd_Laying_finish ["self"] (sp_Laying_finish A) := by
 have nd := sc_Laying_finish.nd
 refine T.F_Laying_finish.ok sc_Laying_finish (fun vs H Q E h => ?_) (fun cdv Ar outer s H vs Q E hr h => ?_)
 ·obtain ⟨H0, a, dx, doc, pen, wr, fg, cm, ln, fo, wv, gr, root, w, m, rfl, _⟩ := h
  rfl
 ·obtain ⟨H0, a, dx, doc, pen, wr, fg, cm, ln, fo, wv, gr, root, w, m, rfl, O, q⟩ := h
  refine ⟨_, (pss_one (ps_while PassesOwn.never (pt_truth (pe_fld (pv 0) rfl) (fun _ => rfl)) (pss_one (ps_expr (pe_meth0 (pv 0) T.cl_Laying T.m_Laying_step (ok_Laying_step T) (hr.mono (by decide)) T.b_Laying_step .nil pass0))))), ?_⟩
  refine ⟨fun k σ H' => ∃ n, n + k = root.size ∧ σ = [some (.ref a)] ∧ LayOk A H0 H' a dx doc pen wr fg cm ln fo wv (grOf w n m gr) root w n (stepsOf w n m), ⟨root.size, 0, Nat.zero_add _, rfl, O⟩, ?_⟩
  rintro k σ H' ⟨n, hnk, rfl, O'⟩
  obtain ⟨cs, hcm, hcs⟩ := id O'.lay.cm_
  have lcs := Paired.length hcs
  rw [cmdsP_length] at lcs
  refine ⟨_, rfl, a, _, dx, _, _, rfl, O'.lay.at_, T.cl_Laying, T.n_Laying_commands, rfl, _, .inl ⟨_, SqL.of hcm, rfl⟩, ?_⟩
  have nil_iff := O'.goes.nil_iff
  cases hcl : (stepsOf w n m).cmds with
  | nil =>
   rw [hcl] at lcs
   have ecs : cs = [] := List.eq_nil_of_length_eq_zero lcs
   subst ecs
   refine iteF ?_
   have hge := nil_iff.mp hcl
   have en : n = root.size := by omega
   subst en
   exact q H' O'
  | cons x r =>
   rw [hcl] at lcs
   have hne : (stepsOf w n m).cmds ≠ [] := by
    rw [hcl]
    intro z
    cases z
   have hlt : n < root.size := by
    have := (O'.goes.first hcl).2
    exact this
   cases cs with
   | nil => cases lcs
   | cons c cs =>
    have e1 : (!((c :: cs).reverse.map V.ref).isEmpty) = true := by
     rw [List.reverse_cons, List.map_append]
     cases cs.reverse.map V.ref <;> rfl
    rw [e1]
    refine iteT ⟨_, fun _ _ h => h, ?_⟩
    refine ⟨_, rfl, a, dx, _, rfl, O'.lay.at_, rfl, H0, a, dx, doc, pen, wr, fg, cm, ln, fo, wv, _, root, w, n, _, rfl, O', hne, fun H2 O2 => ?_⟩
    refine ⟨k - 1, by omega, n + 1, by omega, rfl, ?_⟩
    rw [stepsOf_succ, grOf_succ]
    exact O2
theorem ok_Laying_advance (T : Tx A K mg) : FnOk P w K mg base CX0 8 A.f_Laying_advance A.fd_Laying_advance ["self", "count"] (sp_Laying_advance A) := by
 have nd := sc_Laying_advance.nd
 refine T.F_Laying_advance.ok sc_Laying_advance (fun vs H Q E h => ?_) (fun cdv Ar outer s H vs Q E hr h => ?_)
 ·obtain ⟨H0, a, dx, doc, pen, wr, fg, cm, ln, fo, wv, gr, root, w, n, k, m, rfl, _⟩ := h
  rfl
 ·obtain ⟨H0, a, dx, doc, pen, wr, fg, cm, ln, fo, wv, gr, root, w, n, k, m, rfl, O, hn, q⟩ := h
  refine ⟨_, (pss_cons (ps_set (i := 2) nd rfl (by first | exact Or.inl rfl | exact Or.inr rfl) (pe_op op_add (pe_fld (pv 0) rfl) (pv 1))) (pss_one (ps_while PassesOwn.never (PW.pt (pw_and (pt_truth (pe_fld (pv 0) rfl) (fun _ => rfl)) (pw_and1 (pt_cmpR op_lt (pe_fld (pv 0) rfl) (pv 2) (nomark _))))) (pss_one (ps_expr (pe_meth0 (pv 0) T.cl_Laying T.m_Laying_step (ok_Laying_step T) (hr.mono (by decide)) T.b_Laying_step .nil pass0)))))), ?_⟩
  refine ⟨_, rfl, a, _, dx, _, _, rfl, O.lay.at_, T.cl_Laying, T.n_Laying_taken, rfl, _, rfl, _, _, rfl, rfl, ?_⟩
  refine ⟨fun t σ H' => ∃ j gr', j + t = min k (root.size - n) ∧ σ = [some (.ref a), some (.int k), some (.int ((n : Int) + (k : Int)))] ∧ LayOk A H0 H' a dx doc pen wr fg cm ln fo wv gr' root w (n + j) (stepsOf w j m), ⟨min k (root.size - n), 0, gr, Nat.zero_add _, rfl, O⟩, ?_⟩
  rintro t σ H' ⟨j, gr', hjt, rfl, O'⟩
  obtain ⟨cs, hcm, hcs⟩ := id O'.lay.cm_
  have lcs := Paired.length hcs
  rw [cmdsP_length] at lcs
  refine ⟨_, rfl, a, _, dx, _, _, rfl, O'.lay.at_, T.cl_Laying, T.n_Laying_commands, rfl, _, .inl ⟨_, SqL.of hcm, rfl⟩, ?_⟩
  have nil_iff := O'.goes.nil_iff
  have done : j = min k (root.size - n) → Q .non H' := fun e => q H' gr' (by rw [← e]; exact O')
  cases hcl : (stepsOf w j m).cmds with
  | nil =>
   rw [hcl] at lcs
   have ecs : cs = [] := List.eq_nil_of_length_eq_zero lcs
   subst ecs
   have hge := nil_iff.mp hcl
   exact iteF (iteF (done (by omega)))
  | cons x r =>
   rw [hcl] at lcs
   have hne : (stepsOf w j m).cmds ≠ [] := by
    rw [hcl]
    intro z
    cases z
   have hlt : n + j < root.size := by
    have := (O'.goes.first hcl).2
    exact this
   cases cs with
   | nil => cases lcs
   | cons c cs =>
    have e1 : (!((c :: cs).reverse.map V.ref).isEmpty) = true := by
     rw [List.reverse_cons, List.map_append]
     cases cs.reverse.map V.ref <;> rfl
    rw [e1]
    refine iteT ⟨_, rfl, a, _, dx, _, _, rfl, O'.lay.at_, T.cl_Laying, T.n_Laying_taken, rfl, _, rfl, _, _, rfl, rfl, _, rfl, ite_dec (fun hg => ?_) (fun hg => ?_)⟩
    ·refine ⟨_, fun _ _ h => h, ?_⟩
     refine ⟨_, rfl, a, dx, _, rfl, O'.lay.at_, rfl, H0, a, dx, doc, pen, wr, fg, cm, ln, fo, wv, _, root, w, n + j, _, rfl, O', hne, fun H2 O2 => ?_⟩
     have hjk : j < k := by
      have hg' : ((n + j : Nat) : Int) < (n : Int) + (k : Int) := hg
      omega
     refine ⟨t - 1, by omega, j + 1, grStep (stepsOf w j m) gr', by omega, rfl, ?_⟩
     rw [stepsOf_succ]
     exact O2
    ·refine done ?_
     have hg' : ¬ ((n + j : Nat) : Int) < (n : Int) + (k : Int) := hg
     omega
theorem ok_Laying_tell_first (T : Tx A K mg) : FnOk P w K mg base CX0 1 A.f_Laying_tell_first A.fd_Laying_tell_first ["self"] (sp_Laying_tell_first A) := by
 have nd := sc_Laying_tell_first.nd
 refine T.F_Laying_tell_first.ok sc_Laying_tell_first (fun vs H Q E h => ?_) (fun cdv Ar outer s H vs Q E hr h => ?_)
 ·obtain ⟨H0, a, dx, doc, pen, wr, fg, cm, ln, fo, wv, gr, root, w, n, m, rfl, _⟩ := h
  rfl
 ·obtain ⟨H0, a, dx, doc, pen, wr, fg, cm, ln, fo, wv, gr, root, w, n, m, rfl, O, q⟩ := h
  have L := O.lay
  obtain ⟨ddx, pl, sl, dl, fl, hdoc, hpl, hsl, hdl, hfl⟩ := L.docA
  obtain ⟨cs, hcm, hcs⟩ := id L.cm_
  refine ⟨_, (pss_cons (ps_if (pt_not (pt_truth (pe_fld (pv 0) rfl) (fun _ => rfl))) (pss_one (ps_ret (pe_lst pa_nil))) pss_nil) (pss_cons (ps_set (i := 1) nd rfl (by first | exact Or.inl rfl | exact Or.inr rfl) (pe_ix ix_list (pe_fld (pv 0) rfl) (pe_un un_neg pe_int) (fun _ _ => rfl))) (pss_one (ps_ret (pe_lst (pa_cons (pe_fld (pe_ix ix_list (pe_fld (pe_fld (pv 0) rfl) rfl) (pe_fld (pv 1) rfl) (fun _ _ => rfl)) rfl) (pa_cons (pe_fld (pv 1) rfl) (pa_cons (pe_ifExp (pt_truth (pe_fld (pv 1) rfl) (fun _ => rfl)) pe_int pe_int) pa_nil)))))))), ?_⟩
  refine ⟨_, rfl, a, _, dx, _, _, rfl, L.at_, T.cl_Laying, T.n_Laying_commands, rfl, _, .inl ⟨_, SqL.of hcm, rfl⟩, ?_⟩
  unfold firstNums at q
  cases hm : m.cmds with
  | nil =>
   rw [hm] at q hcs
   cases hcs
   exact ⟨Nat.zero_le _, fun p hp => q _ p hp (same_upd hp) upd_same⟩
  | cons x r =>
   rw [hm] at q hcs
   obtain ⟨he, hn⟩ := O.goes.first hm
   cases hcs with
   | @cons c _ cs' _ h1 h2 =>
   obtain ⟨dc, hcc⟩ := id h1
   have erev : (c :: cs').reverse.map V.ref = cs'.reverse.map V.ref ++ [.ref c] := by
    rw [List.reverse_cons, List.map_append]
    rfl
   rw [erev] at hcm ⊢
   have e1 : (!(cs'.reverse.map V.ref ++ [V.ref c]).isEmpty) = true := by
    cases cs'.reverse.map V.ref <;> rfl
   rw [e1]
   refine iteF ?_
   refine ⟨_, rfl, a, _, dx, _, _, rfl, L.at_, T.cl_Laying, T.n_Laying_commands, rfl, _, rfl, cm, _, _, _, rfl, rfl, SqL.of hcm, atI_last _ _, ?_⟩
   obtain ⟨bs, pa, hpl2, hpa, dxp, tp, hpp, htp⟩ := hpl.get (raw_get he)
   refine ⟨_, rfl, a, _, dx, _, _, rfl, L.at_, T.cl_Laying, T.n_Laying_document, rfl, doc, _, ddx, _, _, rfl, L.base _ _ hdoc, T.cl_Document, T.n_Document_parts, rfl, _, rfl, c, _, dc, _, _, rfl, hcc, T.cl_Command, T.n_Command_place, rfl, pl, _, _, _, rfl, rfl, SqL.of (L.base _ _ hpl2), atI_nat hpa, pa, _, dxp, _, _, rfl, L.base _ _ hpp, T.cl_Part, T.n_Part_kind, rfl,
    _, rfl, c, _, dc, _, _, rfl, hcc, T.cl_Command, T.n_Command_indent, rfl, _, rfl, c, _, dc, _, _, rfl, hcc, T.cl_Command, T.n_Command_flat, rfl, _, rfl, ?_⟩
   obtain ⟨xi, xf, xd⟩ := x
   rw [kind_raw]
   cases xf with
   | true => exact iteT ⟨(by show 3 ≤ sizeLine; decide), fun p hp => q _ p hp (same_upd hp) upd_same⟩
   | false => exact iteF ⟨(by show 3 ≤ sizeLine; decide), fun p hp => q _ p hp (same_upd hp) upd_same⟩
theorem ok_Laying___init__ (T : Tx A K mg) : FnOk P w K mg base CX0 3 A.f_Laying___init__ A.fd_Laying___init__ ["self", "document", "width", "flat"] (sp_Laying___init__ A) := by
 have nd := sc_Laying___init__.nd
 refine T.F_Laying___init__.ok sc_Laying___init__ (fun vs H Q E h => ?_) (fun cdv Ar outer s H vs Q E hr h => ?_)
 ·obtain ⟨a, dx, doc, wv, root, w, f, rfl, _⟩ := h
  rfl
 ·obtain ⟨a, dx, doc, wv, root, w, f, rfl, hwv, ha, hD, hG, q⟩ := h
  have hD0 := hD.hide ha
  have s0 : Same (hide H a) H := hide_same H a
  have na : hide H a a = none := hide_at H a
  generalize hide H a = H0 at hD0 s0 na q
  refine ⟨_, (pss_cons (ps_fld (pv 0) (pv 1) rfl) (pss_cons (ps_fld (pv 0) (pv 2) rfl) (pss_cons (ps_fld (pv 0) (pe_make T.k_Pen (ok_Pen___init__ T) (hr.mono (by decide)) rfl T.mg_Pen T.b_Pen___init__ .nil pass0 (pa_cons pe_int (pa_cons (pe_gint rfl T.c_HELD_NOTHING) (pa_cons pe_int pa_nil)))) rfl) (pss_cons (ps_fld (pv 0) (pe_lst pa_nil) rfl) (pss_cons (ps_fld (pv 0) (pe_make0 T.k_Lines (ok_Lines___init__ T) (hr.mono (by decide)) rfl T.mg_Lines T.b_Lines___init__ .nil pass0) rfl) (pss_cons (ps_fld (pv 0) (pe_lst pa_nil) rfl) (pss_cons (ps_fld (pv 0) pe_int rfl) (pss_cons (ps_fld (pv 0) pe_int rfl) (pss_one (ps_fld (pv 0) (pe_lst (pa_cons (pe_make T.k_Command (ok_Command___init__ T) (hr.mono (by decide)) rfl T.mg_Command T.b_Command___init__ .nil pass0 (pa_cons pe_int (pa_cons pe_int (pa_cons (pv 3) pa_nil)))) pa_nil)) rfl)))))))))), ?_⟩
  refine ⟨_, rfl, _, rfl, a, _, dx, _, rfl, ha, T.cl_Laying, T.n_Laying_document, (by show 0 < 1000; decide), ?_⟩
  refine ⟨_, rfl, _, rfl, a, _, dx, _, rfl, upd_same, T.cl_Laying, T.n_Laying_width, (by show 1 < 1000; decide), ?_⟩
  rw [upd_upd]
  obtain ⟨H1, eH1⟩ : ∃ H1, H1 = upd H a (.ins A.C_Laying dx (putF "width" wv (putF "document" (.ref doc) []))) := ⟨_, rfl⟩
  rw [← eH1]
  have s1 : Same H0 H1 := by
   rw [eH1]
   exact s0.wr na
  have a1 : H1 a = some (.ins A.C_Laying dx [("document", .ref doc), ("width", wv)]) := by
   rw [eH1, upd_same]
   rfl
  clear eH1
  intro pen dp npen ndp nep
  refine ⟨pen, dp, _, _, _, rfl, upd_same, rfl, ?_⟩
  have u2 : Same H1 (upd (upd (upd H1 dp (.own pen)) pen (.ins A.C_Pen dp [])) pen (.ins A.C_Pen dp (penF 0 0 0))) := fun z o e => by
   rw [upd_ne (ne_of_none e npen), upd_ne (ne_of_none e npen), upd_ne (ne_of_none e ndp)]
   exact e
  have p2 : (upd (upd (upd H1 dp (.own pen)) pen (.ins A.C_Pen dp [])) pen (.ins A.C_Pen dp (penF 0 0 0))) pen = some (.ins A.C_Pen dp (penF 0 0 0)) := upd_same
  generalize upd (upd (upd H1 dp (.own pen)) pen (.ins A.C_Pen dp [])) pen (.ins A.C_Pen dp (penF 0 0 0)) = H2 at u2 p2 ⊢
  refine ⟨_, rfl, a, _, dx, _, rfl, u2 _ _ a1, T.cl_Laying, T.n_Laying_pen, (by show 2 < 1000; decide), ?_⟩
  have npen0 := s1.free npen
  have pa : pen ≠ a := (ne_of_none a1 npen).symm
  obtain ⟨H3, eH3⟩ : ∃ H3, H3 = upd H2 a (.ins A.C_Laying dx (putF "pen" (.ref pen) [("document", .ref doc), ("width", wv)])) := ⟨_, rfl⟩
  rw [← eH3]
  have s3 : Same H0 H3 := by
   rw [eH3]
   exact (s1.trans u2).wr na
  have a3 : H3 a = some (.ins A.C_Laying dx [("document", .ref doc), ("width", wv), ("pen", .ref pen)]) := by
   rw [eH3, upd_same]
   rfl
  have p3 : H3 pen = some (.ins A.C_Pen dp (penF 0 0 0)) := by
   rw [eH3, upd_ne pa]
   exact p2
  clear eH3
  refine ⟨Nat.zero_le _, fun wr nwr => ?_⟩
  have u4 := same_upd (o := .lst []) nwr
  refine ⟨_, rfl, a, _, dx, _, rfl, u4 _ _ a3, T.cl_Laying, T.n_Laying_written, (by show 3 < 1000; decide), ?_⟩
  have nwr0 := s3.free nwr
  have wa : wr ≠ a := (ne_of_none a3 nwr).symm
  obtain ⟨H5, eH5⟩ : ∃ H5, H5 = upd (upd H3 wr (.lst [])) a (.ins A.C_Laying dx (putF "written" (.ref wr) [("document", .ref doc), ("width", wv), ("pen", .ref pen)])) := ⟨_, rfl⟩
  rw [← eH5]
  have s5 : Same H0 H5 := by
   rw [eH5]
   exact (s3.trans u4).wr na
  have a5 : H5 a = some (.ins A.C_Laying dx [("document", .ref doc), ("width", wv), ("pen", .ref pen), ("written", .ref wr)]) := by
   rw [eH5, upd_same]
   rfl
  have p5 : H5 pen = some (.ins A.C_Pen dp (penF 0 0 0)) := by
   rw [eH5, upd_ne pa]
   exact u4 _ _ p3
  have w5 : H5 wr = some (.lst []) := by rw [eH5, upd_ne wa, upd_same]
  clear eH5
  intro ln dn nln ndn nel
  refine ⟨ln, dn, rfl, upd_same, fun fo nfo => ⟨rfl, ?_⟩⟩
  have fl : fo ≠ ln := fun z => by
   rw [z, upd_same] at nfo
   cases nfo
  have fd : fo ≠ dn := fun z => by
   rw [z, upd_ne nel, upd_same] at nfo
   cases nfo
  rw [upd_ne fl, upd_ne fd] at nfo
  have u6 : Same H5 (upd (upd (upd (upd H5 dn (.own ln)) ln (.ins A.C_Lines dn [])) fo (.lst [])) ln (.ins A.C_Lines dn (linesF fo 0))) := fun z o e => by
   rw [upd_ne (ne_of_none e nln), upd_ne (ne_of_none e nfo), upd_ne (ne_of_none e nln), upd_ne (ne_of_none e ndn)]
   exact e
  have l6 : (upd (upd (upd (upd H5 dn (.own ln)) ln (.ins A.C_Lines dn [])) fo (.lst [])) ln (.ins A.C_Lines dn (linesF fo 0))) ln = some (.ins A.C_Lines dn (linesF fo 0)) := upd_same
  have o6 : (upd (upd (upd (upd H5 dn (.own ln)) ln (.ins A.C_Lines dn [])) fo (.lst [])) ln (.ins A.C_Lines dn (linesF fo 0))) fo = some (.lst []) := by rw [upd_ne fl, upd_same]
  generalize upd (upd (upd (upd H5 dn (.own ln)) ln (.ins A.C_Lines dn [])) fo (.lst [])) ln (.ins A.C_Lines dn (linesF fo 0)) = H6 at u6 l6 o6 ⊢
  refine ⟨_, rfl, a, _, dx, _, rfl, u6 _ _ a5, T.cl_Laying, T.n_Laying_lines, (by show 4 < 1000; decide), ?_⟩
  have nln0 := s5.free nln
  have nfo0 := s5.free nfo
  have la : ln ≠ a := (ne_of_none a5 nln).symm
  have oa : fo ≠ a := (ne_of_none a5 nfo).symm
  have wo : wr ≠ fo := ne_of_none w5 nfo
  obtain ⟨H7, eH7⟩ : ∃ H7, H7 = upd H6 a (.ins A.C_Laying dx (putF "lines" (.ref ln) [("document", .ref doc), ("width", wv), ("pen", .ref pen), ("written", .ref wr)])) := ⟨_, rfl⟩
  rw [← eH7]
  have s7 : Same H0 H7 := by
   rw [eH7]
   exact (s5.trans u6).wr na
  have a7 : H7 a = some (.ins A.C_Laying dx [("document", .ref doc), ("width", wv), ("pen", .ref pen), ("written", .ref wr), ("lines", .ref ln)]) := by
   rw [eH7, upd_same]
   rfl
  have p7 : H7 pen = some (.ins A.C_Pen dp (penF 0 0 0)) := by
   rw [eH7, upd_ne pa]
   exact u6 _ _ p5
  have w7 : H7 wr = some (.lst []) := by
   rw [eH7, upd_ne wa]
   exact u6 _ _ w5
  have l7 : H7 ln = some (.ins A.C_Lines dn (linesF fo 0)) := by
   rw [eH7, upd_ne la]
   exact l6
  have o7 : H7 fo = some (.lst []) := by
   rw [eH7, upd_ne oa]
   exact o6
  clear eH7
  refine ⟨Nat.zero_le _, fun fg nfg => ?_⟩
  have u8 := same_upd (o := .lst []) nfg
  refine ⟨_, rfl, a, _, dx, _, rfl, u8 _ _ a7, T.cl_Laying, T.n_Laying_flat_groups, (by show 5 < 1000; decide), ?_⟩
  refine ⟨_, rfl, a, _, dx, _, rfl, upd_same, T.cl_Laying, T.n_Laying_greatest_reach, (by show 6 < 1000; decide), ?_⟩
  rw [upd_upd]
  refine ⟨_, rfl, a, _, dx, _, rfl, upd_same, T.cl_Laying, T.n_Laying_taken, (by show 7 < 1000; decide), ?_⟩
  rw [upd_upd]
  have nfg0 := s7.free nfg
  have fa : fg ≠ a := (ne_of_none a7 nfg).symm
  have wf : wr ≠ fg := ne_of_none w7 nfg
  have of' : fo ≠ fg := ne_of_none o7 nfg
  obtain ⟨H9, eH9⟩ : ∃ H9, H9 = upd (upd H7 fg (.lst [])) a (.ins A.C_Laying dx (putF "taken" (.int 0) (putF "greatest_reach" (.int 0) (putF "flat_groups" (.ref fg) [("document", .ref doc), ("width", wv), ("pen", .ref pen), ("written", .ref wr), ("lines", .ref ln)])))) := ⟨_, rfl⟩
  rw [← eH9]
  have s9 : Same H0 H9 := by
   rw [eH9]
   exact (s7.trans u8).wr na
  have a9 : H9 a = some (.ins A.C_Laying dx [("document", .ref doc), ("width", wv), ("pen", .ref pen), ("written", .ref wr), ("lines", .ref ln), ("flat_groups", .ref fg), ("greatest_reach", .int 0), ("taken", .int 0)]) := by
   rw [eH9, upd_same]
   rfl
  have p9 : H9 pen = some (.ins A.C_Pen dp (penF 0 0 0)) := by
   rw [eH9, upd_ne pa]
   exact u8 _ _ p7
  have w9 : H9 wr = some (.lst []) := by
   rw [eH9, upd_ne wa]
   exact u8 _ _ w7
  have l9 : H9 ln = some (.ins A.C_Lines dn (linesF fo 0)) := by
   rw [eH9, upd_ne la]
   exact u8 _ _ l7
  have o9 : H9 fo = some (.lst []) := by
   rw [eH9, upd_ne oa]
   exact u8 _ _ o7
  have f9 : H9 fg = some (.lst []) := by rw [eH9, upd_ne fa, upd_same]
  clear eH9
  refine ⟨_, rfl, ?_⟩
  intro c dc nc ndc nec
  refine ⟨c, dc, _, _, _, rfl, upd_same, rfl, ?_⟩
  have ua : Same H9 (upd (upd (upd H9 dc (.own c)) c (.ins A.C_Command dc [])) c (.ins A.C_Command dc (cmdF 0 0 f))) := fun z o e => by
   rw [upd_ne (ne_of_none e nc), upd_ne (ne_of_none e nc), upd_ne (ne_of_none e ndc)]
   exact e
  have ca : (upd (upd (upd H9 dc (.own c)) c (.ins A.C_Command dc [])) c (.ins A.C_Command dc (cmdF 0 0 f))) c = some (.ins A.C_Command dc (cmdF 0 0 f)) := upd_same
  generalize upd (upd (upd H9 dc (.own c)) c (.ins A.C_Command dc [])) c (.ins A.C_Command dc (cmdF 0 0 f)) = Ha at ua ca ⊢
  refine ⟨(by show 1 ≤ sizeLine; decide), fun cm ncm => ?_⟩
  have ub := ua.trans (same_upd (o := .lst [.ref c]) ncm)
  refine ⟨_, rfl, a, _, dx, _, rfl, ub _ _ a9, T.cl_Laying, T.n_Laying_commands, (by show 8 < 1000; decide), ?_⟩
  have ncm9 := ua.free ncm
  have ncm0 := s9.free ncm9
  have cma : cm ≠ a := (ne_of_none a9 ncm9).symm
  have cca : c ≠ a := (ne_of_none a9 nc).symm
  refine q _ pen wr fg cm ln fo { lay := { at_ := ?_, base := (s9.trans ub).wr na, docA := hD0, pen_ := ⟨dp, ?_⟩, wr_ := ?_, fg_ := ?_, cm_ := ⟨[c], ?_, .cons ⟨dc, ?_⟩ .nil⟩, lin_ := ⟨[], ⟨⟨dn, ?_⟩, ?_, .nil, List.nodup_nil⟩, fun b hb => by cases hb⟩, n1 := na, n2 := npen0, n3 := nwr0, n4 := nfg0, n5 := ncm0, n6 := nln0, n7 := nfo0, d1 := wf, d2 := ne_of_none w9 ncm9, d3 := ne_of_none f9 ncm9, d4 := wo, d5 := of'.symm, d6 := (ne_of_none o9 ncm9).symm }, goes := goes_begun root f, bnd := bnd_begun root f, good := hG, rz := rowz_begun f root, wval := hwv, few := Nat.le_refl _, mds := Nat.le_refl _ }
  ·rw [upd_same]
   rfl
  ·rw [upd_ne pa]
   exact ub _ _ p9
  ·rw [upd_ne wa]
   exact ub _ _ w9
  ·rw [upd_ne fa]
   exact ub _ _ f9
  ·rw [upd_ne cma, upd_same]
   rfl
  ·rw [upd_ne cca, upd_ne (ne_of_none ca ncm)]
   exact ca
  ·rw [upd_ne la]
   exact ub _ _ l9
  ·rw [upd_ne oa]
   exact ub _ _ o9
theorem ok_lay_out (T : Tx A K mg) : FnOk P w K mg base CX0 9 A.f_lay_out A.fd_lay_out ["document", "width", "flat"] (sp_lay_out A) := by
 have nd := sc_lay_out.nd
 refine T.F_lay_out.ok sc_lay_out (fun vs H Q E h => ?_) (fun cdv Ar outer s H vs Q E hr h => ?_)
 ·obtain ⟨doc, wv, root, w, f, rfl, _⟩ := h
  rfl
 ·obtain ⟨doc, wv, root, w, f, rfl, hwv, hD, hG, q⟩ := h
  refine ⟨_, (pss_cons (ps_set (i := 3) nd rfl (by first | exact Or.inl rfl | exact Or.inr rfl) (pe_make T.k_Laying (ok_Laying___init__ T) (hr.mono (by decide)) rfl T.mg_Laying T.b_Laying___init__ .nil pass0 (pa_cons (pv 0) (pa_cons (pv 1) (pa_cons (pv 2) pa_nil))))) (pss_cons (ps_expr (pe_meth0 (pv 3) T.cl_Laying T.m_Laying_finish (ok_Laying_finish T) (hr.mono (by decide)) T.b_Laying_finish .nil pass0)) (pss_one (ps_ret (pv 3))))), ?_⟩
  refine ⟨_, rfl, _, rfl, _, rfl, ?_⟩
  intro x dx nx ndx nex
  have s1 : Same H (upd (upd H dx (.own x)) x (.ins A.C_Laying dx [])) := fun z o e => by
   rw [upd_ne (ne_of_none e nx), upd_ne (ne_of_none e ndx)]
   exact e
  have x1 : (upd (upd H dx (.own x)) x (.ins A.C_Laying dx [])) x = some (.ins A.C_Laying dx []) := upd_same
  generalize upd (upd H dx (.own x)) x (.ins A.C_Laying dx []) = H1 at s1 x1 ⊢
  refine ⟨x, dx, doc, wv, root, w, f, rfl, hwv, x1, hD.mono s1, hG, fun H2 pen wr fg cm ln fo O2 => ⟨rfl, ?_⟩⟩
  have sH : Same H (hide H1 x) := fun z o e => by
   rw [hide_ne (ne_of_none e nx)]
   exact s1 _ _ e
  refine ⟨_, rfl, x, dx, _, rfl, O2.lay.at_, rfl, _, x, dx, doc, pen, wr, fg, cm, ln, fo, wv, 0, root, w, _, rfl, O2, fun H3 O3 => ?_⟩
  exact ⟨_, rfl, q _ H3 x dx pen wr fg cm ln fo O3 (sH.trans O3.lay.base) nx⟩
theorem ok_least_width (T : Tx A K mg) : FnOk P w K mg base CX0 10 A.f_least_width A.fd_least_width ["document"] (sp_least_width A) := by
 have nd := sc_least_width.nd
 refine T.F_least_width.ok sc_least_width (fun vs H Q E h => ?_) (fun cdv Ar outer s H vs Q E hr h => ?_)
 ·obtain ⟨doc, root, rfl, _⟩ := h
  rfl
 ·obtain ⟨doc, root, rfl, hD, hG, q⟩ := h
  refine ⟨_, (pss_one (ps_ret (pe_fld (pe_call (ok_lay_out T) (hr.mono (by decide)) rfl T.mg_lay_out T.kp_lay_out T.b_lay_out .nil pass0 (pa_cons (pv 0) (pa_cons pe_non (pa_cons pe_bl pa_nil)))) rfl))), ?_⟩
  refine ⟨_, rfl, doc, .non, root, 9400, false, rfl, .inr ⟨rfl, Nat.le_refl _⟩, hD, hG, fun H0 H' a dx pen wr fg cm ln fo O s n => ?_⟩
  refine ⟨a, _, dx, _, _, rfl, O.lay.at_, T.cl_Laying, T.n_Laying_greatest_reach, rfl, ?_⟩
  have e : grOf 9400 root.size (begunF false root) 0 = Vafmtb.leastWidth root := (least_gr hG (Nat.le_refl _)).symm
  rw [e]
  exact q _ s
end
end WL
set_option Elab.async false
set_option linter.all false
set_option maxRecDepth 100000
set_option maxHeartbeats 2000000
namespace WL
open PySem PySem.Spec PyProof.Rows L2
open Vafmtb (Doc Held Cmd Mach stepsOf heldAt rowsOf laid oneLine shown written)
structure DeskR (A : Ad) (H : Hp) (a dx dl : Addr) (fs : List (Str × V)) (ds : List Doc) : Prop where
 at_ : H a = some (.ins A.C_Desk dx fs)
 docs : fs.lookup ("documents" : Str) = some (.ref dl)
 docsA : DocsAt A H dl ds
 good : ∀ d ∈ ds, Good d
 m1 : fs.lookup ("holds" : Str) = none
 m2 : fs.lookup ("laying_refusal" : Str) = none
theorem flat_len {l : List Doc} (h : ∀ e ∈ l, (raw e).text.length ≤ 4000) : (l.flatMap fun e => numbersOf (raw e)).length ≤ l.length * 5000 := by
 induction l with
 | nil => simp
 | cons e l ih =>
  rw [List.flatMap_cons, List.length_append, List.length_cons]
  have h1 := ih fun x hx => h x (List.mem_cons_of_mem _ hx)
  have h2 : (numbersOf (raw e)).length ≤ 5000 := by
   have h3 := h e (List.mem_cons_self ..)
   unfold numbersOf
   split
   ·simp only [List.length_cons]
    omega
   ·simp
  omega
theorem told_len {d : Doc} (g : Good d) : (natsI d.told).length ≤ 3000000 := by
 rw [told_subs]
 have h1 := flat_len (l := subs d) fun e he => by
  have := text_le he
  have := g.bytes
  omega
 rw [subs_length] at h1
 have := g.size
 omega
def heldB (ds : List Doc) (k : Int) : Bool := decide (0 ≤ k) && decide (k < ds.length)
theorem held_none {ds : List Doc} {k : Int} (h : heldB ds k = false) : heldAt ds k = none := by
 unfold heldAt
 by_cases h0 : k < 0
 ·rw [if_pos h0]
 ·rw [if_neg h0]
  unfold heldB at h
  rw [decide_eq_true (by omega), Bool.true_and] at h
  exact List.getElem?_eq_none_iff.mpr (by have := of_decide_eq_false h; omega)
theorem held_some {ds : List Doc} {k : Int} (h : heldB ds k = true) : ∃ d, heldAt ds k = some d ∧ ds[k.toNat]? = some d ∧ 0 ≤ k ∧ d ∈ ds := by
 unfold heldB at h
 rw [Bool.and_eq_true] at h
 have h0 := of_decide_eq_true h.1
 have h1 := of_decide_eq_true h.2
 have e : ds[k.toNat]? = some (ds[k.toNat]'(by omega)) := List.getElem?_eq_getElem (by omega)
 refine ⟨_, ?_, e, h0, List.mem_of_getElem? e⟩
 unfold heldAt
 rw [if_neg (by omega), e]
def refusal (ds : List Doc) (w k : Int) : V := if w < 0 ∨ 1000 < w then .int (-3) else if heldB ds k = true then .non else .int (-2)
def sp_Desk_holds (A : Ad) : Sp := fun vs H Q _ => ∃ (a dx dl : Addr) (fs : List (Str × V)) (ds : List Doc) (k : Int), vs = [.ref a, .int k] ∧ DeskR A H a dx dl fs ds ∧ Q (.bl (heldB ds k)) H
def sp_Desk_laying_refusal (A : Ad) : Sp := fun vs H Q _ => ∃ (a dx dl : Addr) (fs : List (Str × V)) (ds : List Doc) (w k : Int), vs = [.ref a, .int w, .int k] ∧ DeskR A H a dx dl fs ds ∧ Q (refusal ds w k) H
def onD (ds : List Doc) (k : Int) (f : Doc → List Int) : List Int := match heldAt ds k with
 | none => [-2]
 | some d => f d
def onW (ds : List Doc) (w k : Int) (f : Nat → Doc → List Int) : List Int := if w < 0 ∨ 1000 < w then [-3] else onD ds k (f w.toNat)
def sp_Desk_answer_told (A : Ad) : Sp := fun vs H Q _ => ∃ (a dx dl : Addr) (fs : List (Str × V)) (ds : List Doc) (k : Int), vs = [.ref a, .int k] ∧ DeskR A H a dx dl fs ds ∧ NewInts H (onD ds k fun d => natsI (d.size :: d.told)) Q
def sp_Desk_answer_size (A : Ad) : Sp := fun vs H Q _ => ∃ (a dx dl : Addr) (fs : List (Str × V)) (ds : List Doc) (k : Int), vs = [.ref a, .int k] ∧ DeskR A H a dx dl fs ds ∧ NewInts H (onD ds k fun d => natsI [d.size, d.depth, d.bytes, d.groups.length, if d.forced then 1 else 0]) Q
def shownI (t : Vafmtb.Bytes) : List Int := (t.length : Int) :: toInts t
def sp_Desk_answer_flat (A : Ad) : Sp := fun vs H Q _ => ∃ (a dx dl : Addr) (fs : List (Str × V)) (ds : List Doc) (k : Int), vs = [.ref a, .int k] ∧ DeskR A H a dx dl fs ds ∧ NewInts H (onD ds k fun d => if d.forced = true then [-7] else shownI (written (oneLine d))) Q
section
variable {P : Program} {w : World} {K : PySem.W.Frag} {mg : Str → Option Value} {base : Heap} {A : Ad}
theorem ok_Desk_holds (T : Tx A K mg) : FnOk P w K mg base CX0 1 A.f_Desk_holds A.fd_Desk_holds ["self", "k"] (sp_Desk_holds A) := by
 have nd := sc_Desk_holds.nd
 refine T.F_Desk_holds.ok sc_Desk_holds (fun vs H Q E h => ?_) (fun cdv Ar outer s H vs Q E hr h => ?_)
 ·obtain ⟨a, dx, dl, fs, ds, k, rfl, _⟩ := h
  rfl
 ·obtain ⟨a, dx, dl, fs, ds, k, rfl, R, q⟩ := h
  obtain ⟨as, hdl, hda⟩ := R.docsA
  have las : (as.map V.ref).length = ds.length := by rw [List.length_map, Paired.length hda]
  unfold heldB at q
  refine ⟨_, (pss_one (ps_ret (pe_chain op_le op_lt pe_int (pv 1) (pe_callB call_lenR rfl T.b_len PySem.boot_len (pa_cons (pe_fld (pv 0) rfl) pa_nil))))), ?_⟩
  refine ⟨_, rfl, _, _, rfl, rfl, _, rfl, ite_dec (fun h1 => ?_) (fun h1 => ?_)⟩
  ·refine ⟨_, rfl, a, _, dx, _, _, rfl, R.at_, T.cl_Desk, T.n_Desk_documents, R.docs, dl, _, rfl, .inl (SqL.of hdl), _, _, rfl, rfl, ?_⟩
   rw [decide_eq_true h1, Bool.true_and] at q
   rw [las]
   exact q
  ·rw [decide_eq_false h1, Bool.false_and] at q
   exact q
theorem ok_Desk_laying_refusal (T : Tx A K mg) : FnOk P w K mg base CX0 2 A.f_Desk_laying_refusal A.fd_Desk_laying_refusal ["self", "w", "k"] (sp_Desk_laying_refusal A) := by
 have nd := sc_Desk_laying_refusal.nd
 refine T.F_Desk_laying_refusal.ok sc_Desk_laying_refusal (fun vs H Q E h => ?_) (fun cdv Ar outer s H vs Q E hr h => ?_)
 ·obtain ⟨a, dx, dl, fs, ds, w, k, rfl, _⟩ := h
  rfl
 ·obtain ⟨a, dx, dl, fs, ds, w, k, rfl, R, q⟩ := h
  unfold refusal at q
  refine ⟨_, (pss_cons (ps_if (pt_not (pt_chain op_le op_le pe_int (pv 1) (pe_gint rfl T.c_MOST_WIDTH))) (pss_one (ps_ret (pe_gint rfl T.c_NO_WIDTH))) pss_nil) (pss_cons (ps_if (pt_not (pt_truth (pe_meth (pv 0) T.cl_Desk T.m_Desk_holds (ok_Desk_holds T) (hr.mono (by decide)) T.b_Desk_holds .nil pass0 (pa_cons (pv 2) pa_nil)) (fun _ => rfl))) (pss_one (ps_ret (pe_gint rfl T.c_NO_DOCUMENT))) pss_nil) (pss_one (ps_ret pe_non)))), ?_⟩
  refine ⟨_, rfl, _, _, rfl, rfl, _, rfl, ite_dec (fun h1 => ?_) (fun h1 => ?_)⟩
  ·refine ⟨_, _, rfl, rfl, _, rfl, ?_⟩
   by_cases h2 : w ≤ 1000
   ·rw [if_neg (by omega)] at q
    rw [decide_eq_true h2]
    refine iteF ?_
    refine ⟨_, rfl, a, dx, _, rfl, R.at_, R.m1, _, rfl, a, dx, dl, fs, ds, k, rfl, R, _, rfl, ?_⟩
    cases hb : heldB ds k with
    | true =>
     rw [hb, if_pos rfl] at q
     exact q
    | false =>
     rw [hb, if_neg Bool.false_ne_true] at q
     exact q
   ·rw [if_pos (by omega)] at q
    rw [decide_eq_false h2]
    exact q
  ·rw [if_pos (by omega)] at q
   exact ⟨_, rfl, q⟩
theorem new_one {H H1 : Hp} {z : Int} {Q : VK} (q : NewInts H [z] Q) (s : Same H H1) : ∀ p, H1 p = none → Q (.ref p) (upd H1 p (.lst [.int z])) := fun p hp => q _ p (s.free hp) (s.trans (same_upd hp)) upd_same
theorem ok_Desk_answer_told (T : Tx A K mg) : FnOk P w K mg base CX0 3 A.f_Desk_answer_told A.fd_Desk_answer_told ["self", "k"] (sp_Desk_answer_told A) := by
 have nd := sc_Desk_answer_told.nd
 refine T.F_Desk_answer_told.ok sc_Desk_answer_told (fun vs H Q E h => ?_) (fun cdv Ar outer s H vs Q E hr h => ?_)
 ·obtain ⟨a, dx, dl, fs, ds, k, rfl, _⟩ := h
  rfl
 ·obtain ⟨a, dx, dl, fs, ds, k, rfl, R, q⟩ := h
  unfold onD at q
  refine ⟨_, (pss_cons (ps_if (pt_not (pt_truth (pe_meth (pv 0) T.cl_Desk T.m_Desk_holds (ok_Desk_holds T) (hr.mono (by decide)) T.b_Desk_holds .nil pass0 (pa_cons (pv 1) pa_nil)) (fun _ => rfl))) (pss_one (ps_ret (pe_lst (pa_cons (pe_gint rfl T.c_NO_DOCUMENT) pa_nil)))) pss_nil) (pss_cons (ps_set (i := 2) nd rfl (by first | exact Or.inl rfl | exact Or.inr rfl) (pe_ix ix_list (pe_fld (pv 0) rfl) (pv 1) (fun _ _ => rfl))) (pss_one (ps_ret (pe_op op_cat (pe_lst (pa_cons (pe_callB call_lenR rfl T.b_len PySem.boot_len (pa_cons (pe_fld (pv 2) rfl) pa_nil)) pa_nil)) (pe_meth0 (pv 2) T.cl_Document T.m_Document_row_numbers (ok_Document_row_numbers T) (hr.mono (by decide)) T.b_Document_row_numbers .nil pass0)))))), ?_⟩
  refine ⟨_, rfl, a, dx, _, rfl, R.at_, R.m1, _, rfl, a, dx, dl, fs, ds, k, rfl, R, _, rfl, ?_⟩
  cases hb : heldB ds k with
  | false =>
   rw [held_none hb] at q
   exact ⟨(by show 1 ≤ sizeLine; decide), new_one q (.refl _)⟩
  | true =>
   obtain ⟨d, h1, h2, h3, h4⟩ := held_some hb
   rw [h1] at q
   have hG := R.good d h4
   obtain ⟨as, da, hdl, hda, hD⟩ := R.docsA.get h2
   obtain ⟨ddx, pl, sl, dl', fl, hdoc, ⟨bs, hpl, hpp⟩, hsl, hdl2, hfl⟩ := id hD
   have lbs : (bs.map V.ref).length = d.size := by rw [List.length_map, Paired.length hpp, List.length_map, subs_length]
   refine iteF ?_
   refine ⟨_, rfl, a, _, dx, _, _, rfl, R.at_, T.cl_Desk, T.n_Desk_documents, R.docs, _, rfl, dl, _, _, _, rfl, rfl, SqL.of hdl, at_of (j := k.toNat) (by omega) hda, ?_⟩
   refine ⟨_, rfl, da, _, ddx, _, _, rfl, hdoc, T.cl_Document, T.n_Document_parts, rfl, pl, _, rfl, .inl (SqL.of hpl), (by show 1 ≤ sizeLine; decide), fun l1 n1 => ?_⟩
   rw [lbs]
   have s1 := same_upd (o := .lst [.int d.size]) n1
   refine ⟨_, rfl, da, ddx, _, rfl, s1 _ _ hdoc, rfl, da, d, rfl, hD.mono s1, hG, fun H2 l2 n2 s2 hl2 => ?_⟩
   refine ⟨l1, l2, _, _, rfl, rfl, s2 _ _ upd_same, hl2, ?_, fun l3 n3 => ?_⟩
   ·rw [intsV_length]
    have := told_len hG
    exact line_le (by show 1 + _ ≤ _; omega)
   ·refine q _ l3 (s1.free (s2.free n3)) ((s1.trans s2).trans (same_upd n3)) ?_
    rw [upd_same]
    rfl
theorem ok_Desk_answer_size (T : Tx A K mg) : FnOk P w K mg base CX0 2 A.f_Desk_answer_size A.fd_Desk_answer_size ["self", "k"] (sp_Desk_answer_size A) := by
 have nd := sc_Desk_answer_size.nd
 refine T.F_Desk_answer_size.ok sc_Desk_answer_size (fun vs H Q E h => ?_) (fun cdv Ar outer s H vs Q E hr h => ?_)
 ·obtain ⟨a, dx, dl, fs, ds, k, rfl, _⟩ := h
  rfl
 ·obtain ⟨a, dx, dl, fs, ds, k, rfl, R, q⟩ := h
  unfold onD at q
  refine ⟨_, (pss_cons (ps_if (pt_not (pt_truth (pe_meth (pv 0) T.cl_Desk T.m_Desk_holds (ok_Desk_holds T) (hr.mono (by decide)) T.b_Desk_holds .nil pass0 (pa_cons (pv 1) pa_nil)) (fun _ => rfl))) (pss_one (ps_ret (pe_lst (pa_cons (pe_gint rfl T.c_NO_DOCUMENT) pa_nil)))) pss_nil) (pss_cons (ps_set (i := 2) nd rfl (by first | exact Or.inl rfl | exact Or.inr rfl) (pe_ix ix_list (pe_fld (pv 0) rfl) (pv 1) (fun _ _ => rfl))) (pss_cons (ps_set (i := 3) nd rfl (by first | exact Or.inl rfl | exact Or.inr rfl) (pe_ifExp (pt_truth (pe_ix ix_list (pe_fld (pv 2) rfl) pe_int (fun _ _ => rfl)) (fun _ => rfl)) pe_int pe_int)) (pss_one (ps_ret (pe_lst (pa_cons (pe_callB call_lenR rfl T.b_len PySem.boot_len (pa_cons (pe_fld (pv 2) rfl) pa_nil)) (pa_cons (pe_ix ix_list (pe_fld (pv 2) rfl) pe_int (fun _ _ => rfl)) (pa_cons (pe_meth0 (pv 2) T.cl_Document T.m_Document_count_bytes (ok_Document_count_bytes T) (hr.mono (by decide)) T.b_Document_count_bytes .nil pass0) (pa_cons (pe_meth0 (pv 2) T.cl_Document T.m_Document_count_groups (ok_Document_count_groups T) (hr.mono (by decide)) T.b_Document_count_groups .nil pass0) (pa_cons (pv 3) pa_nil))))))))))), ?_⟩
  refine ⟨_, rfl, a, dx, _, rfl, R.at_, R.m1, _, rfl, a, dx, dl, fs, ds, k, rfl, R, _, rfl, ?_⟩
  cases hb : heldB ds k with
  | false =>
   rw [held_none hb] at q
   exact ⟨(by show 1 ≤ sizeLine; decide), new_one q (.refl _)⟩
  | true =>
   obtain ⟨d, h1, h2, h3, h4⟩ := held_some hb
   rw [h1] at q
   have hG := R.good d h4
   obtain ⟨as, da, hdl, hda, hD⟩ := R.docsA.get h2
   obtain ⟨ddx, pl, sl, dl', fl, hdoc, ⟨bs, hpl, hpp⟩, hsl, hdl2, hfl⟩ := id hD
   have lbs : (bs.map V.ref).length = d.size := by rw [List.length_map, Paired.length hpp, List.length_map, subs_length]
   have hf0 : (forceds d)[0]? = some (.bl d.forced) := by
    rw [forceds, subs_eq]
    rfl
   have hd0 : (intsV (depths d))[0]? = some (.int d.depth) := by
    rw [depths, subs_eq]
    rfl
   refine iteF ?_
   refine ⟨_, rfl, a, _, dx, _, _, rfl, R.at_, T.cl_Desk, T.n_Desk_documents, R.docs, _, rfl, dl, _, _, _, rfl, rfl, SqL.of hdl, at_of (j := k.toNat) (by omega) hda, ?_⟩
   refine ⟨_, rfl, da, _, ddx, _, _, rfl, hdoc, T.cl_Document, T.n_Document_forced, rfl, fl, _, _, _, rfl, rfl, SqL.of hfl, atI_nat (j := 0) hf0, _, rfl, ?_⟩
   have rest : ∀ z : Int, z = (if d.forced = true then 1 else 0) →
     tRet (tLst (tCons (tCB (rLen K) (tCons (tFld K (tVar 2) "parts") tNil)) (tCons (tOp (rIxL K) (tFld K (tVar 2) "depths") (tC (.int 0))) (tCons (tMeth A.C_Document "count_bytes" (sp_Document_count_bytes A) [] E0 (tVar 2) tNil) (tCons (tMeth A.C_Document "count_groups" (sp_Document_count_groups A) [] E0 (tVar 2) tNil) (tCons (tVar 3) tNil))))))
      { nx := fun _ H' => Q .non H', rt := Q } [some (.ref a), some (.int k), some (.ref da), some (.int z)] H := by
    intro z hz
    refine ⟨_, rfl, da, _, ddx, _, _, rfl, hdoc, T.cl_Document, T.n_Document_parts, rfl, pl, _, rfl, .inl (SqL.of hpl), _, rfl, da, _, ddx, _, _, rfl, hdoc, T.cl_Document, T.n_Document_depths, rfl, dl', _, _, _, rfl, rfl, SqL.of hdl2, atI_nat (j := 0) hd0, _, rfl, da, ddx, _, rfl, hdoc, rfl, da, d, rfl, hD, hG.size, fun H2 s2 => ?_⟩
    refine ⟨_, rfl, da, ddx, _, rfl, s2 _ _ hdoc, rfl, da, d, rfl, hD.mono s2, hG.size, fun H3 s3 => ⟨_, rfl, (by show 5 ≤ sizeLine; decide), fun l n => ?_⟩⟩
    have s23 := s2.trans s3
    rw [lbs]
    refine q _ l (s23.free n) (s23.trans (same_upd n)) ?_
    rw [upd_same, hz]
    simp only [natsI, intsV, List.map_cons, List.map_nil]
    cases d.forced <;> rfl
   cases hfv : d.forced with
   | true => exact iteT (rest 1 (by rw [hfv]; rfl))
   | false => exact iteF (rest 0 (by rw [hfv]; rfl))
theorem ok_Desk_answer_flat (T : Tx A K mg) : FnOk P w K mg base CX0 10 A.f_Desk_answer_flat A.fd_Desk_answer_flat ["self", "k"] (sp_Desk_answer_flat A) := by
 have nd := sc_Desk_answer_flat.nd
 refine T.F_Desk_answer_flat.ok sc_Desk_answer_flat (fun vs H Q E h => ?_) (fun cdv Ar outer s H vs Q E hr h => ?_)
 ·obtain ⟨a, dx, dl, fs, ds, k, rfl, _⟩ := h
  rfl
 ·obtain ⟨a, dx, dl, fs, ds, k, rfl, R, q⟩ := h
  unfold onD at q
  refine ⟨_, (pss_cons (ps_if (pt_not (pt_truth (pe_meth (pv 0) T.cl_Desk T.m_Desk_holds (ok_Desk_holds T) (hr.mono (by decide)) T.b_Desk_holds .nil pass0 (pa_cons (pv 1) pa_nil)) (fun _ => rfl))) (pss_one (ps_ret (pe_lst (pa_cons (pe_gint rfl T.c_NO_DOCUMENT) pa_nil)))) pss_nil) (pss_cons (ps_if (pt_truth (pe_ix ix_list (pe_fld (pe_ix ix_list (pe_fld (pv 0) rfl) (pv 1) (fun _ _ => rfl)) rfl) pe_int (fun _ _ => rfl)) (fun _ => rfl)) (pss_one (ps_ret (pe_lst (pa_cons (pe_gint rfl T.c_FORCED) pa_nil)))) pss_nil) (pss_cons (ps_set (i := 2) nd rfl (by first | exact Or.inl rfl | exact Or.inr rfl) (pe_fld (pe_call (ok_lay_out T) (hr.mono (by decide)) rfl T.mg_lay_out T.kp_lay_out T.b_lay_out .nil pass0 (pa_cons (pe_ix ix_list (pe_fld (pv 0) rfl) (pv 1) (fun _ _ => rfl)) (pa_cons pe_int (pa_cons pe_bl pa_nil)))) rfl)) (pss_one (ps_ret (pe_op op_cat (pe_lst (pa_cons (pe_callB call_lenR rfl T.b_len PySem.boot_len (pa_cons (pv 2) pa_nil)) pa_nil)) (pv 2))))))), ?_⟩
  refine ⟨_, rfl, a, dx, _, rfl, R.at_, R.m1, _, rfl, a, dx, dl, fs, ds, k, rfl, R, _, rfl, ?_⟩
  cases hb : heldB ds k with
  | false =>
   rw [held_none hb] at q
   exact ⟨(by show 1 ≤ sizeLine; decide), new_one q (.refl _)⟩
  | true =>
   obtain ⟨d, h1, h2, h3, h4⟩ := held_some hb
   rw [h1] at q
   simp only at q
   have hG := R.good d h4
   obtain ⟨as, da, hdl, hda, hD⟩ := R.docsA.get h2
   obtain ⟨ddx, pl, sl, dl', fl, hdoc, ⟨bs, hpl, hpp⟩, hsl, hdl2, hfl⟩ := id hD
   have hf0 : (forceds d)[0]? = some (.bl d.forced) := by
    rw [forceds, subs_eq]
    rfl
   refine iteF ?_
   refine ⟨_, rfl, a, _, dx, _, _, rfl, R.at_, T.cl_Desk, T.n_Desk_documents, R.docs, _, rfl, dl, _, _, _, rfl, rfl, SqL.of hdl, at_of (j := k.toNat) (by omega) hda, da, _, ddx, _, _, rfl, hdoc, T.cl_Document, T.n_Document_forced, rfl, fl, _, _, _, rfl, rfl, SqL.of hfl, atI_nat (j := 0) hf0, _, rfl, ?_⟩
   cases hfv : d.forced with
   | true =>
    rw [hfv, if_pos rfl] at q
    exact iteT ⟨(by show 1 ≤ sizeLine; decide), new_one q (.refl _)⟩
   | false =>
    rw [hfv, if_neg Bool.false_ne_true] at q
    refine iteF ?_
    refine ⟨_, rfl, a, _, dx, _, _, rfl, R.at_, T.cl_Desk, T.n_Desk_documents, R.docs, _, rfl, dl, _, _, _, rfl, rfl, SqL.of hdl, at_of (j := k.toNat) (by omega) hda, da, .int 0, d, 0, true, rfl, .inl rfl, hD, hG, fun H0 H2 b bdx pen wr fg cm ln fo O s2 nb => ?_⟩
    have L := O.lay
    have hout := O.bnd.out
    have hsz := hG.size
    refine ⟨b, _, bdx, _, _, rfl, L.at_, T.cl_Laying, T.n_Laying_written, rfl, ?_⟩
    refine ⟨_, rfl, wr, _, rfl, .inl (SqL.of L.wr_), (by show 1 ≤ sizeLine; decide), fun l1 n1 => ⟨_, rfl, ?_⟩⟩
    have s3 := same_upd (o := .lst [.int (intsV (toInts (stepsOf 0 d.size (begunF true d)).out.reverse)).length]) n1
    refine ⟨l1, wr, _, _, rfl, rfl, upd_same, s3 _ _ L.wr_, ?_, fun l2 n2 => ?_⟩
    ·rw [intsV_length, ints_length, List.length_reverse]
     exact line_le (by show 1 + _ ≤ _; omega)
    ·refine q _ l2 (s2.free (s3.free n2)) ((s2.trans s3).trans (same_upd n2)) ?_
     rw [upd_same, intsV_length, ints_length]
     rfl
end
end WL
set_option Elab.async false
set_option linter.all false
set_option maxRecDepth 100000
set_option maxHeartbeats 2000000
namespace WL
open PySem PySem.Spec PyProof.Rows L2
open Vafmtb (Doc Held Cmd Mach stepsOf heldAt rowsOf laid oneLine shown written readRow tooLarge)
structure DeskW (A : Ad) (Hd H : Hp) (a dx dl : Addr) (fs : List (Str × V)) (ds : List Doc) : Prop where
 at_ : H a = some (.ins A.C_Desk dx fs)
 docs : fs.lookup ("documents" : Str) = some (.ref dl)
 lst : ListIn (fun a d => DocAt A Hd a d) H dl ds
 base : Same Hd H
 n1 : Hd a = none
 n2 : Hd dl = none
 good : ∀ d ∈ ds, Good d
 few : ds.length ≤ 20
 m1 : fs.lookup ("holds" : Str) = none
 m2 : fs.lookup ("laying_refusal" : Str) = none
theorem DeskW.r {A : Ad} {Hd H : Hp} {a dx dl : Addr} {fs : List (Str × V)} {ds : List Doc} (D : DeskW A Hd H a dx dl fs ds) : DeskR A H a dx dl fs ds := ⟨D.at_, D.docs, D.lst.docs D.base, D.good, D.m1, D.m2⟩
theorem DeskW.mono {A : Ad} {Hd H H' : Hp} {a dx dl : Addr} {fs : List (Str × V)} {ds : List Doc} (D : DeskW A Hd H a dx dl fs ds) (s : Same H H') : DeskW A Hd H' a dx dl fs ds := { D with at_ := s _ _ D.at_, lst := D.lst.mono s, base := D.base.trans s }
def grown (Hd H H' : Hp) : Hp := fun b => match H b with
 | none => H' b
 | some _ => Hd b
theorem grown_old {Hd H H' : Hp} {b : Addr} {o : HO} (h : H b = some o) : grown Hd H H' b = Hd b := by
 unfold grown
 rw [h]
theorem grown_new {Hd H H' : Hp} {b : Addr} (h : H b = none) : grown Hd H H' b = H' b := by
 unfold grown
 rw [h]
theorem grown_ext {Hd H H' : Hp} (s : Same Hd H) : Same Hd (grown Hd H H') := fun b o e => by
 rw [grown_old (s _ _ e)]
 exact e
theorem grown_sub {Hd H H' : Hp} (s : Same Hd H) (k : Same H H') : Same (grown Hd H H') H' := fun b o e => by
 cases h : H b with
 | none =>
  rw [grown_new h] at e
  exact e
 | some u =>
  rw [grown_old h] at e
  exact k _ _ (s _ _ e)
theorem grown_mono {Hd H H1 H2 : Hp} (k : Same H1 H2) : Same (grown Hd H H1) (grown Hd H H2) := fun b o e => by
 cases h : H b with
 | none =>
  rw [grown_new h] at e ⊢
  exact k _ _ e
 | some u =>
  rw [grown_old h] at e ⊢
  exact e
theorem PartNew.grown {A : Ad} {Hd H H' : Hp} {a : Addr} {p : RawP} (h : PartNew A H H' a p) : PartAt A (grown Hd H H') a p := by
 obtain ⟨dx, t, h1, h2, h3, h4⟩ := h
 exact ⟨dx, t, by rw [grown_new h3]; exact h1, by rw [grown_new h4]; exact h2⟩
def sp_Desk_answer_put (A : Ad) : Sp := fun vs H Q _ => ∃ (Hd : Hp) (a dx dl r : Addr) (fs : List (Str × V)) (ds : List Doc) (x : List Int) (st : Vafmtb.State), vs = [.ref a, .ref r] ∧ DeskW A Hd H a dx dl fs ds ∧ H r = some (.lst (intsV x)) ∧ x.length ≤ 3000 ∧ st.docs = ds ∧
 ∀ Hd' H' p, DeskW A Hd' H' a dx dl fs (Vafmtb.putting st x).1.docs → But dl H H' → Same Hd Hd' → (∀ b o, H b = some o → Hd' b = Hd b) → H p = none → H' p = some (.lst (intsV (Vafmtb.putting st x).2)) → Q (.ref p) H'
def sp_Desk_answer_drop (A : Ad) : Sp := fun vs H Q _ => ∃ (Hd : Hp) (a dx dl : Addr) (fs : List (Str × V)) (ds : List Doc), vs = [.ref a] ∧ DeskW A Hd H a dx dl fs ds ∧
 ∀ H' p, DeskW A Hd H' a dx dl fs (if ds.isEmpty then ds else ds.dropLast) → But dl H H' → H p = none → H' p = some (.lst (intsV (if ds.isEmpty then [-9] else [((ds.length - 1 : Nat) : Int)]))) → Q (.ref p) H'
def sp_Desk_answer_groups (A : Ad) : Sp := fun vs H Q _ => ∃ (a dx dl : Addr) (fs : List (Str × V)) (ds : List Doc) (w k : Int), vs = [.ref a, .int w, .int k] ∧ DeskR A H a dx dl fs ds ∧ NewInts H (onW ds w k fun w d => ((laid w d).modes.length : Int) :: (laid w d).modes.reverse.map fun b => if b = true then 1 else 0) Q
theorem paired_dropLast {α β : Type} {G : α → β → Prop} : ∀ {a : List α} {b : List β}, Paired G a b → Paired G a.dropLast b.dropLast
 | [], [], _ => .nil
 | [_], [_], _ => .nil
 | x :: y :: a, z :: u :: b, .cons r t => .cons r (paired_dropLast t)
section
variable {P : Program} {w : World} {K : PySem.W.Frag} {mg : Str → Option Value} {base : Heap} {A : Ad}
theorem ok_Desk_answer_put (T : Tx A K mg) : FnOk P w K mg base CX0 7 A.f_Desk_answer_put A.fd_Desk_answer_put ["self", "row"] (sp_Desk_answer_put A) := by
 have nd := sc_Desk_answer_put.nd
 refine T.F_Desk_answer_put.ok sc_Desk_answer_put (fun vs H Q E h => ?_) (fun cdv Ar outer s H vs Q E hr h => ?_)
 ·obtain ⟨Hd, a, dx, dl, r, fs, ds, x, st, rfl, _⟩ := h
  rfl
 ·obtain ⟨Hd, a, dx, dl, r, fs, ds, x, st, rfl, D, hr0, hx, hst, q⟩ := h
  obtain ⟨as, hdl, hda⟩ := D.lst
  have las : (as.map V.ref).length = ds.length := by rw [List.length_map, Paired.length hda]
  refine ⟨_, (pss_cons (ps_set (i := 2) nd rfl (by first | exact Or.inl rfl | exact Or.inr rfl) (pe_call (ok_read_parts T) (hr.mono (by decide)) rfl T.mg_read_parts T.kp_read_parts T.b_read_parts .nil pass0 (pa_cons (pv 1) (pa_cons (pe_callB call_lenR rfl T.b_len PySem.boot_len (pa_cons (pe_fld (pv 0) rfl) pa_nil)) pa_nil)))) (pss_cons (ps_if (pt_cmpR op_isN (pv 2) pe_non (nomark _)) (pss_one (ps_ret (pe_lst (pa_cons (pe_gint rfl T.c_NO_ROW) pa_nil)))) pss_nil) (pss_cons (ps_set (i := 3) nd rfl (by first | exact Or.inl rfl | exact Or.inr rfl) (pe_call (ok_make_document T) (hr.mono (by decide)) rfl T.mg_make_document T.kp_make_document T.b_make_document .nil pass0 (pa_cons (pv 2) (pa_cons (pe_fld (pv 0) rfl) pa_nil)))) (pss_cons (ps_if (pt_cmpR op_isN (pv 3) pe_non (nomark _)) (pss_one (ps_ret (pe_lst (pa_cons (pe_gint rfl T.c_TOO_LARGE) pa_nil)))) pss_nil) (pss_cons (ps_if (pt_cmpR op_eq (pe_callB call_lenR rfl T.b_len PySem.boot_len (pa_cons (pe_fld (pv 0) rfl) pa_nil)) (pe_gint rfl T.c_MOST_HELD) (nomark _)) (pss_one (ps_ret (pe_lst (pa_cons (pe_gint rfl T.c_FULL) pa_nil)))) pss_nil) (pss_cons (ps_expr (pe_bm PySem.F.plainAttrs_list PySem.F.slot_list_append PySem.F.type_list_append mt_append (pe_fld (pv 0) rfl) (pa_cons (pv 3) pa_nil))) (pss_one (ps_ret (pe_lst (pa_cons (pe_op op_sub (pe_callB call_lenR rfl T.b_len PySem.boot_len (pa_cons (pe_fld (pv 0) rfl) pa_nil)) pe_int) pa_nil)))))))))), ?_⟩
  unfold Vafmtb.putting at q
  rw [hst] at q
  have refuse : ∀ (H1 : Hp) (z : Int), Same H H1 → (∀ Hd' H' p, DeskW A Hd' H' a dx dl fs ds → But dl H H' → Same Hd Hd' → (∀ b o, H b = some o → Hd' b = Hd b) → H p = none → H' p = some (.lst (intsV [z])) → Q (.ref p) H') → ∀ p, H1 p = none → Q (.ref p) (upd H1 p (.lst [.int z])) := fun H1 z s1 q p hp =>
   q Hd _ p (D.mono (s1.trans (same_upd hp))) (fun b o e _ => (s1.trans (same_upd hp)) _ _ e) (.refl _) (fun _ _ _ => rfl) (s1.free hp) upd_same
  refine ⟨_, rfl, _, rfl, a, _, dx, _, _, rfl, D.at_, T.cl_Desk, T.n_Desk_documents, D.docs, dl, _, rfl, .inl (SqL.of hdl), r, x, ds, ?_, hr0, hx, ?_⟩
  ·rw [las]
   rfl
  unfold RowRes
  cases hrow : readRow ds x with
  | none =>
   rw [hrow] at q
   intro H1 s1
   refine ⟨_, rfl, rfl, _, rfl, iteT ⟨(by show 1 ≤ sizeLine; decide), ?_⟩⟩
   have q' : ∀ Hd' H' p, DeskW A Hd' H' a dx dl fs ds → But dl H H' → Same Hd Hd' → (∀ b o, H b = some o → Hd' b = Hd b) → H p = none → H' p = some (.lst (intsV [-1])) → Q (.ref p) H' := by
    intro Hd' H' p h1
    rw [← hst] at h1
    exact q Hd' H' p h1
   exact refuse H1 (-1) s1 q'
  | some d =>
   rw [hrow] at q
   intro H1 l ps nl s1 hparts hnames hspell hgood
   refine ⟨_, rfl, rfl, _, rfl, iteF ?_⟩
   have D1 := D.mono s1
   have hps : ListIn (fun a p => PartAt A (grown Hd H H1) a p) H1 l ps := by
    obtain ⟨cs, h1, h2⟩ := hparts
    exact ⟨cs, h1, Paired.mapP h2 fun _ _ z => z.grown⟩
   have hds : ListIn (fun a d => DocAt A (grown Hd H H1) a d) H1 dl ds := by
    obtain ⟨cs, h1, h2⟩ := D1.lst
    exact ⟨cs, h1, Paired.mapP h2 fun _ _ z => z.mono (grown_ext D.base)⟩
   refine ⟨_, rfl, _, rfl, a, _, dx, _, _, rfl, D1.at_, T.cl_Desk, T.n_Desk_documents, D1.docs, grown Hd H H1, l, dl, ps, ds, d, rfl, grown_sub D.base s1, hps, hds, hnames, hspell, fun hL H2 s2 => ?_, fun hL H2 p2 s2 hN => ?_⟩
   ·refine ⟨_, rfl, rfl, _, rfl, iteT ⟨(by show 1 ≤ sizeLine; decide), ?_⟩⟩
    have q' : ∀ Hd' H' p, DeskW A Hd' H' a dx dl fs ds → But dl H H' → Same Hd Hd' → (∀ b o, H b = some o → Hd' b = Hd b) → H p = none → H' p = some (.lst (intsV [-4])) → Q (.ref p) H' := by
     intro Hd' H' p h1
     simp only [hL, if_true] at q
     rw [← hst] at h1
     exact q Hd' H' p h1
    exact refuse H2 (-4) (s1.trans s2) q'
   ·refine ⟨_, rfl, rfl, _, rfl, iteF ?_⟩
    have s12 := s1.trans s2
    have D2 := D.mono s12
    obtain ⟨as2, hdl2, hda2⟩ := D2.lst
    have las2 : (as2.map V.ref).length = ds.length := by rw [List.length_map, Paired.length hda2]
    refine ⟨_, rfl, a, _, dx, _, _, rfl, D2.at_, T.cl_Desk, T.n_Desk_documents, D2.docs, dl, _, rfl, .inl (SqL.of hdl2), rfl, _, rfl, ?_⟩
    rw [las2]
    simp only [hL, Bool.false_eq_true, if_false] at q
    refine ite_eqI (fun hk => ?_) (fun hk => ?_)
    ·refine ⟨(by show 1 ≤ sizeLine; decide), ?_⟩
     have q' : ∀ Hd' H' p, DeskW A Hd' H' a dx dl fs ds → But dl H H' → Same Hd Hd' → (∀ b o, H b = some o → Hd' b = Hd b) → H p = none → H' p = some (.lst (intsV [-5])) → Q (.ref p) H' := by
      intro Hd' H' p h1
      rw [if_pos (show Vafmtb.MANY ≤ ds.length by show 20 ≤ ds.length; omega)] at q
      rw [← hst] at h1
      exact q Hd' H' p h1
     exact refuse H2 (-5) s12 q'
    ·have hfew := D.few
     rw [if_neg (show ¬ Vafmtb.MANY ≤ ds.length by show ¬ 20 ≤ ds.length; omega)] at q
     refine ⟨_, rfl, a, _, dx, _, _, rfl, D2.at_, T.cl_Desk, T.n_Desk_documents, D2.docs, .inl ⟨rfl, _, SqL.of hdl2⟩, _, rfl, dl, _, _, rfl, rfl, hdl2, ?_, ?_⟩
     ·rw [las2]
      exact Nat.lt_of_lt_of_le (m := 100) (by omega) (line_le (by omega))
     have eas : as2.map V.ref ++ [.ref p2] = (as2 ++ [p2]).map V.ref := by rw [List.map_append]; rfl
     rw [eas]
     have hdla : H dl = some (.lst (as.map V.ref)) := hdl
     have gd : grown Hd H H2 dl = none := by rw [grown_old hdla]; exact D.n2
     have ga : grown Hd H H2 a = none := by rw [grown_old D.at_]; exact D.n1
     have hnew : DocAt A (grown Hd H H2) p2 d := by
      obtain ⟨z0, z1, z2, z3, z4, y1, ⟨cs, y2, y2'⟩, y3, y4, y5, x1, x2, x3, x4, x5⟩ := hN
      refine ⟨z0, z1, z2, z3, z4, ?_, ⟨cs, ?_, Paired.mapP y2' fun _ _ z => z.mono (grown_mono s2)⟩, ?_, ?_, ?_⟩
      ·rw [grown_new (s1.free x1)]
       exact y1
      ·rw [grown_new (s1.free x2)]
       exact y2
      ·rw [grown_new (s1.free x3)]
       exact y3
      ·rw [grown_new (s1.free x4)]
       exact y4
      ·rw [grown_new (s1.free x5)]
       exact y5
     have nad : a ≠ dl := ne_of D2.at_ hdl2 (by intro z; cases z)
     have k3 : But dl H2 (upd H2 dl (.lst ((as2 ++ [p2]).map V.ref))) := .upd _ _ _
     have hgd : Good d := by
      refine good_of hL fun e he => ?_
      have hm : raw e ∈ spell ds ps := by
       rw [hspell]
       exact List.mem_map.mpr ⟨e, he, rfl⟩
      obtain ⟨pp, hpp, hpe⟩ := List.mem_flatMap.mp hm
      by_cases hk10 : pp.kind = 10
      ·obtain ⟨h0, h1⟩ := hnames pp hpp hk10
       obtain ⟨d', hd1, hd2⟩ := spell1_named (ds := ds) hk10 h0 h1
       rw [hd2] at hpe
       obtain ⟨e', he', eq'⟩ := List.mem_map.mp hpe
       rw [← eq']
       exact (D.good d' (List.mem_of_getElem? hd1)).parts e' he'
      ·rw [spell1_other hk10] at hpe
       rw [List.mem_singleton.mp hpe]
       exact hgood pp hpp
     have D3 : DeskW A (grown Hd H H2) (upd H2 dl (.lst ((as2 ++ [p2]).map V.ref))) a dx dl fs (ds ++ [d]) := by
      refine ⟨k3 _ _ D2.at_ nad, D.docs, ⟨as2 ++ [p2], upd_same, paired_append (Paired.mapP hda2 fun _ _ z => z.mono (grown_ext D.base)) (.cons hnew .nil)⟩, (grown_sub D.base s12).wr gd, ga, gd, ?_, ?_, D.m1, D.m2⟩
      ·intro y hy
       rcases List.mem_append.mp hy with hy | hy
       ·exact D.good y hy
       ·rw [List.mem_singleton.mp hy]
        exact hgd
      ·rw [List.length_append, List.length_singleton]
       omega
     have kB : But dl H (upd H2 dl (.lst ((as2 ++ [p2]).map V.ref))) := fun b o e hb => k3 _ _ (s12 _ _ e) hb
     generalize upd H2 dl (.lst ((as2 ++ [p2]).map V.ref)) = H3 at D3 kB ⊢
     obtain ⟨as3, hdl3, hda3⟩ := D3.lst
     have las3 : (as3.map V.ref).length = ds.length + 1 := by rw [List.length_map, Paired.length hda3, List.length_append, List.length_singleton]
     refine ⟨_, rfl, a, _, dx, _, _, rfl, D3.at_, T.cl_Desk, T.n_Desk_documents, D3.docs, dl, _, rfl, .inl (SqL.of hdl3), _, _, rfl, rfl, (by show 1 ≤ sizeLine; decide), fun l4 n4 => ?_⟩
     have s4 := same_upd (o := .lst [.int (((as3.map V.ref).length : Int) - 1)]) n4
     have nl4 : H l4 = none := by
      cases hz : H l4 with
      | none => rfl
      | some o =>
       by_cases hzd : l4 = dl
       ·rw [hzd, hdl3] at n4
        cases n4
       ·rw [kB _ _ hz hzd] at n4
        cases n4
     refine q (grown Hd H H2) _ l4 (D3.mono s4) (fun b o e hb => s4 _ _ (kB _ _ e hb)) (grown_ext D.base) (fun b o e => grown_old e) nl4 ?_
     rw [upd_same, las3]
     show some (HO.lst [V.int (((ds.length + 1 : Nat) : Int) - 1)]) = some (HO.lst [V.int ((ds.length : Nat) : Int)])
     rw [show ((ds.length + 1 : Nat) : Int) - 1 = ((ds.length : Nat) : Int) by omega]
theorem ok_Desk_answer_drop (T : Tx A K mg) : FnOk P w K mg base CX0 1 A.f_Desk_answer_drop A.fd_Desk_answer_drop ["self"] (sp_Desk_answer_drop A) := by
 have nd := sc_Desk_answer_drop.nd
 refine T.F_Desk_answer_drop.ok sc_Desk_answer_drop (fun vs H Q E h => ?_) (fun cdv Ar outer s H vs Q E hr h => ?_)
 ·obtain ⟨Hd, a, dx, dl, fs, ds, rfl, _⟩ := h
  rfl
 ·obtain ⟨Hd, a, dx, dl, fs, ds, rfl, D, q⟩ := h
  obtain ⟨as, hdl, hda⟩ := D.lst
  have las : as.length = ds.length := Paired.length hda
  refine ⟨_, (pss_cons (ps_if (pt_not (pt_truth (pe_fld (pv 0) rfl) (fun _ => rfl))) (pss_one (ps_ret (pe_lst (pa_cons (pe_gint rfl T.c_NOTHING_THERE) pa_nil)))) pss_nil) (pss_cons (ps_expr (pe_bm0 PySem.F.plainAttrs_list PySem.F.slot_list_pop PySem.F.type_list_pop mt_pop (pe_fld (pv 0) rfl))) (pss_one (ps_ret (pe_lst (pa_cons (pe_callB call_lenR rfl T.b_len PySem.boot_len (pa_cons (pe_fld (pv 0) rfl) pa_nil)) pa_nil)))))), ?_⟩
  refine ⟨_, rfl, a, _, dx, _, _, rfl, D.at_, T.cl_Desk, T.n_Desk_documents, D.docs, _, .inl ⟨_, SqL.of hdl, rfl⟩, ?_⟩
  cases ds with
  | nil =>
   have e : as = [] := List.eq_nil_of_length_eq_zero las
   subst e
   refine ⟨(by show 1 ≤ sizeLine; decide), fun p hp => ?_⟩
   exact q _ p (D.mono (same_upd hp)) (fun b o e _ => same_upd hp _ _ e) hp upd_same
  | cons d ds =>
   cases as with
   | nil => cases las
   | cons b as =>
    refine iteF ?_
    have hlast : ((b :: as).map V.ref)[((b :: as).map V.ref).length - 1]? = some (((b :: as).map V.ref).getLast (by simp)) := by
     rw [← List.getLast?_eq_getElem?]
     exact List.getLast?_eq_some_getLast (by simp)
    refine ⟨_, rfl, a, _, dx, _, _, rfl, D.at_, T.cl_Desk, T.n_Desk_documents, D.docs, .inl ⟨rfl, _, SqL.of hdl⟩, dl, _, _, rfl, rfl, hdl, hlast, ?_⟩
    have edl : ((b :: as).map V.ref).dropLast = ((b :: as).dropLast).map V.ref := (List.map_dropLast ..).symm
    rw [edl]
    have nad : a ≠ dl := ne_of D.at_ hdl (by intro z; cases z)
    have k1 : But dl H (upd H dl (.lst (((b :: as).dropLast).map V.ref))) := .upd _ _ _
    have D1 : DeskW A Hd (upd H dl (.lst (((b :: as).dropLast).map V.ref))) a dx dl fs ((d :: ds).dropLast) := by
     refine ⟨k1 _ _ D.at_ nad, D.docs, ⟨(b :: as).dropLast, upd_same, paired_dropLast hda⟩, D.base.wr D.n2, D.n1, D.n2, fun y hy => D.good y (List.dropLast_subset _ hy), ?_, D.m1, D.m2⟩
     have := D.few
     rw [List.length_dropLast]
     omega
    generalize upd H dl (.lst (((b :: as).dropLast).map V.ref)) = H1 at k1 D1 ⊢
    obtain ⟨as1, hdl1, hda1⟩ := D1.lst
    have las1 : (as1.map V.ref).length = (d :: ds).length - 1 := by rw [List.length_map, Paired.length hda1, List.length_dropLast]
    refine ⟨_, rfl, a, _, dx, _, _, rfl, D1.at_, T.cl_Desk, T.n_Desk_documents, D1.docs, dl, _, rfl, .inl (SqL.of hdl1), (by show 1 ≤ sizeLine; decide), fun p hp => ?_⟩
    have nl : H p = none := by
     cases hz : H p with
     | none => rfl
     | some o =>
      by_cases hzd : p = dl
      ·rw [hzd, hdl1] at hp
       cases hp
      ·rw [k1 _ _ hz hzd] at hp
       cases hp
    refine q _ p (D1.mono (same_upd hp)) (fun b o e hb => same_upd hp _ _ (k1 _ _ e hb)) nl ?_
    rw [upd_same, las1]
    rfl
theorem ok_Desk_answer_groups (T : Tx A K mg) : FnOk P w K mg base CX0 10 A.f_Desk_answer_groups A.fd_Desk_answer_groups ["self", "w", "k"] (sp_Desk_answer_groups A) := by
 have nd := sc_Desk_answer_groups.nd
 refine T.F_Desk_answer_groups.ok sc_Desk_answer_groups (fun vs H Q E h => ?_) (fun cdv Ar outer s H vs Q E hr h => ?_)
 ·obtain ⟨a, dx, dl, fs, ds, w, k, rfl, _⟩ := h
  rfl
 ·obtain ⟨a, dx, dl, fs, ds, w, k, rfl, R, q⟩ := h
  refine ⟨_, (pss_cons (ps_set (i := 3) nd rfl (by first | exact Or.inl rfl | exact Or.inr rfl) (pe_meth (pv 0) T.cl_Desk T.m_Desk_laying_refusal (ok_Desk_laying_refusal T) (hr.mono (by decide)) T.b_Desk_laying_refusal .nil pass0 (pa_cons (pv 1) (pa_cons (pv 2) pa_nil)))) (pss_cons (ps_if (pt_cmpR op_notN (pv 3) pe_non (nomark _)) (pss_one (ps_ret (pe_lst (pa_cons (pv 3) pa_nil)))) pss_nil) (pss_cons (ps_set (i := 4) nd rfl (by first | exact Or.inl rfl | exact Or.inr rfl) (pe_fld (pe_call (ok_lay_out T) (hr.mono (by decide)) rfl T.mg_lay_out T.kp_lay_out T.b_lay_out .nil pass0 (pa_cons (pe_ix ix_list (pe_fld (pv 0) rfl) (pv 2) (fun _ _ => rfl)) (pa_cons (pv 1) (pa_cons pe_bl pa_nil)))) rfl)) (pss_one (ps_ret (pe_op op_cat (pe_lst (pa_cons (pe_callB call_lenR rfl T.b_len PySem.boot_len (pa_cons (pv 4) pa_nil)) pa_nil)) (pv 4))))))), ?_⟩
  refine ⟨_, rfl, a, dx, _, rfl, R.at_, R.m2, _, rfl, _, rfl, a, dx, dl, fs, ds, w, k, rfl, R, ?_⟩
  unfold onW onD at q
  unfold refusal
  by_cases hw : w < 0 ∨ 1000 < w
  ·rw [if_pos hw] at q ⊢
   exact ⟨_, rfl, rfl, _, rfl, iteT ⟨_, rfl, (by show 1 ≤ sizeLine; decide), new_one q (.refl _)⟩⟩
  ·rw [if_neg hw] at q ⊢
   cases hb : heldB ds k with
   | false =>
    rw [if_neg Bool.false_ne_true]
    rw [held_none hb] at q
    exact ⟨_, rfl, rfl, _, rfl, iteT ⟨_, rfl, (by show 1 ≤ sizeLine; decide), new_one q (.refl _)⟩⟩
   | true =>
    rw [if_pos rfl]
    obtain ⟨d, h1, h2, h3, h4⟩ := held_some hb
    rw [h1] at q
    simp only at q
    have hG := R.good d h4
    obtain ⟨as, da, hdl, hda, hD⟩ := R.docsA.get h2
    refine ⟨_, rfl, rfl, _, rfl, iteF ?_⟩
    have ew : w = ((w.toNat : Nat) : Int) := by omega
    refine ⟨_, rfl, a, _, dx, _, _, rfl, R.at_, T.cl_Desk, T.n_Desk_documents, R.docs, _, rfl, dl, _, _, _, rfl, rfl, SqL.of hdl, at_of (j := k.toNat) (by omega) hda, _, rfl, da, .int w, d, w.toNat, false, rfl, .inl (congrArg V.int ew), hD, hG, fun H0 H2 b bdx pen wr fg cm ln fo O s2 nb => ?_⟩
    have L := O.lay
    have eM : stepsOf w.toNat d.size (begunF false d) = laid w.toNat d := rfl
    rw [eM] at L
    refine ⟨b, _, bdx, _, _, rfl, L.at_, T.cl_Laying, T.n_Laying_flat_groups, rfl, ?_⟩
    refine ⟨_, rfl, fg, _, rfl, .inl (SqL.of L.fg_), (by show 1 ≤ sizeLine; decide), fun l1 n1 => ⟨_, rfl, ?_⟩⟩
    have hml : (laid w.toNat d).modes.length ≤ d.size := O.mds
    have hsz := hG.size
    have s3 := same_upd (o := .lst [.int (intsV ((laid w.toNat d).modes.reverse.map fun b => if b = true then 1 else 0)).length]) n1
    refine ⟨l1, fg, _, _, rfl, rfl, upd_same, s3 _ _ L.fg_, ?_, fun l2 n2 => ?_⟩
    ·rw [intsV_length, List.length_map, List.length_reverse]
     exact line_le (by show 1 + _ ≤ _; omega)
    ·refine q _ l2 (s2.free (s3.free n2)) ((s2.trans s3).trans (same_upd n2)) ?_
     rw [upd_same, intsV_length, List.length_map, List.length_reverse]
     rfl
end
end WL
set_option Elab.async false
set_option linter.all false
set_option maxRecDepth 100000
set_option maxHeartbeats 2000000
namespace WL
open PySem PySem.Spec PyProof.Rows L2
open Vafmtb (Doc Held Cmd Mach stepsOf heldAt rowsOf laid oneLine shown written longest leastWidth)
def sp_Desk_answer_lay (A : Ad) : Sp := fun vs H Q _ => ∃ (a dx dl : Addr) (fs : List (Str × V)) (ds : List Doc) (w k : Int), vs = [.ref a, .int w, .int k] ∧ DeskR A H a dx dl fs ds ∧ NewInts H (onW ds w k fun w d => if 20000 < (laid w d).out.length then [-8] else ((rowsOf (laid w d)).length : Int) :: (longest (laid w d) : Int) :: shownI (written (laid w d))) Q
def sp_Desk_answer_lines (A : Ad) : Sp := fun vs H Q _ => ∃ (a dx dl : Addr) (fs : List (Str × V)) (ds : List Doc) (w k : Int), vs = [.ref a, .int w, .int k] ∧ DeskR A H a dx dl fs ds ∧ NewInts H (onW ds w k fun w d => ((rowsOf (laid w d)).length : Int) :: rowNums (rowsOf (laid w d))) Q
def sp_Desk_answer_least (A : Ad) : Sp := fun vs H Q _ => ∃ (a dx dl : Addr) (fs : List (Str × V)) (ds : List Doc) (k : Int), vs = [.ref a, .int k] ∧ DeskR A H a dx dl fs ds ∧ NewInts H (onD ds k fun d => [(leastWidth d : Int)]) Q
section
variable {P : Program} {w : World} {K : PySem.W.Frag} {mg : Str → Option Value} {base : Heap} {A : Ad}
theorem ok_Desk_answer_lay (T : Tx A K mg) : FnOk P w K mg base CX0 10 A.f_Desk_answer_lay A.fd_Desk_answer_lay ["self", "w", "k"] (sp_Desk_answer_lay A) := by
 have nd := sc_Desk_answer_lay.nd
 refine T.F_Desk_answer_lay.ok sc_Desk_answer_lay (fun vs H Q E h => ?_) (fun cdv Ar outer s H vs Q E hr h => ?_)
 ·obtain ⟨a, dx, dl, fs, ds, w, k, rfl, _⟩ := h
  rfl
 ·obtain ⟨a, dx, dl, fs, ds, w, k, rfl, R, q⟩ := h
  refine ⟨_, (pss_cons (ps_set (i := 3) nd rfl (by first | exact Or.inl rfl | exact Or.inr rfl) (pe_meth (pv 0) T.cl_Desk T.m_Desk_laying_refusal (ok_Desk_laying_refusal T) (hr.mono (by decide)) T.b_Desk_laying_refusal .nil pass0 (pa_cons (pv 1) (pa_cons (pv 2) pa_nil)))) (pss_cons (ps_if (pt_cmpR op_notN (pv 3) pe_non (nomark _)) (pss_one (ps_ret (pe_lst (pa_cons (pv 3) pa_nil)))) pss_nil) (pss_cons (ps_set (i := 4) nd rfl (by first | exact Or.inl rfl | exact Or.inr rfl) (pe_call (ok_lay_out T) (hr.mono (by decide)) rfl T.mg_lay_out T.kp_lay_out T.b_lay_out .nil pass0 (pa_cons (pe_ix ix_list (pe_fld (pv 0) rfl) (pv 2) (fun _ _ => rfl)) (pa_cons (pv 1) (pa_cons pe_bl pa_nil))))) (pss_cons (ps_if (pt_cmpR op_gt (pe_callB call_lenR rfl T.b_len PySem.boot_len (pa_cons (pe_fld (pv 4) rfl) pa_nil)) (pe_gint rfl T.c_MOST_WRITTEN) (nomark _)) (pss_one (ps_ret (pe_lst (pa_cons (pe_gint rfl T.c_TOO_LONG) pa_nil)))) pss_nil) (pss_cons (ps_set (i := 5) nd rfl (by first | exact Or.inl rfl | exact Or.inr rfl) (pe_fld (pv 4) rfl)) (pss_one (ps_ret (pe_op op_cat (pe_lst (pa_cons (pe_callB call_lenR rfl T.b_len PySem.boot_len (pa_cons (pe_fld (pv 5) rfl) pa_nil)) (pa_cons (pe_meth0 (pv 5) T.cl_Lines T.m_Lines_greatest_length (ok_Lines_greatest_length T) (hr.mono (by decide)) T.b_Lines_greatest_length .nil pass0) (pa_cons (pe_callB call_lenR rfl T.b_len PySem.boot_len (pa_cons (pe_fld (pv 4) rfl) pa_nil)) pa_nil)))) (pe_fld (pv 4) rfl))))))))), ?_⟩
  refine ⟨_, rfl, a, dx, _, rfl, R.at_, R.m2, _, rfl, _, rfl, a, dx, dl, fs, ds, w, k, rfl, R, ?_⟩
  unfold onW onD at q
  unfold refusal
  by_cases hw : w < 0 ∨ 1000 < w
  ·rw [if_pos hw] at q ⊢
   exact ⟨_, rfl, rfl, _, rfl, iteT ⟨_, rfl, (by show 1 ≤ sizeLine; decide), new_one q (.refl _)⟩⟩
  ·rw [if_neg hw] at q ⊢
   cases hb : heldB ds k with
   | false =>
    rw [if_neg Bool.false_ne_true]
    rw [held_none hb] at q
    exact ⟨_, rfl, rfl, _, rfl, iteT ⟨_, rfl, (by show 1 ≤ sizeLine; decide), new_one q (.refl _)⟩⟩
   | true =>
    rw [if_pos rfl]
    obtain ⟨d, h1, h2, h3, h4⟩ := held_some hb
    rw [h1] at q
    simp only at q
    have hG := R.good d h4
    obtain ⟨as, da, hdl, hda, hD⟩ := R.docsA.get h2
    refine ⟨_, rfl, rfl, _, rfl, iteF ?_⟩
    have ew : w = ((w.toNat : Nat) : Int) := by omega
    refine ⟨_, rfl, a, _, dx, _, _, rfl, R.at_, T.cl_Desk, T.n_Desk_documents, R.docs, _, rfl, dl, _, _, _, rfl, rfl, SqL.of hdl, at_of (j := k.toNat) (by omega) hda, _, rfl, da, .int w, d, w.toNat, false, rfl, .inl (congrArg V.int ew), hD, hG, fun H0 H2 b bdx pen wr fg cm ln fo O s2 nb => ?_⟩
    have L := O.lay
    have hout := O.bnd.out
    have hsz := hG.size
    have hfew := O.few
    have eM : stepsOf w.toNat d.size (begunF false d) = laid w.toNat d := rfl
    rw [eM] at L hout hfew
    have hlen : (intsV (toInts (laid w.toNat d).out.reverse)).length = (laid w.toNat d).out.length := by rw [intsV_length, ints_length, List.length_reverse]
    refine ⟨_, rfl, b, _, bdx, _, _, rfl, L.at_, T.cl_Laying, T.n_Laying_written, rfl, wr, _, rfl, .inl (SqL.of L.wr_), _, _, rfl, rfl, _, rfl, ?_⟩
    rw [hlen]
    refine ite_dec (fun hk => ?_) (fun hk => ?_)
    ·rw [if_pos (by omega)] at q
     exact ⟨(by show 1 ≤ sizeLine; decide), new_one q s2⟩
    ·rw [if_neg (by omega)] at q
     obtain ⟨ls, hl1, hl2⟩ := L.lin_
     obtain ⟨dn, hln⟩ := hl1.at_
     have lls : (ls.map V.ref).length = (rowsOf (laid w.toNat d)).length := by
      rw [List.length_map]
      exact Paired.length hl1.ls_
     refine ⟨_, rfl, b, _, bdx, _, _, rfl, L.at_, T.cl_Laying, T.n_Laying_lines, rfl, ?_⟩
     refine ⟨_, rfl, ln, _, dn, _, _, rfl, hln, T.cl_Lines, T.n_Lines_found, rfl, fo, _, rfl, .inl (SqL.of hl1.fo_), _, rfl, ln, dn, _, rfl, hln, rfl, ln, fo, ls, _, _, rfl, hl1, (by show (rowsOf (laid w.toNat d)).length ≤ 100000; omega), fun H3 s3 => ?_⟩
     refine ⟨_, rfl, b, _, bdx, _, _, rfl, s3 _ _ L.at_, T.cl_Laying, T.n_Laying_written, rfl, wr, _, rfl, .inl (SqL.of (s3 _ _ L.wr_)), (by show 3 ≤ sizeLine; decide), fun l1 n1 => ?_⟩
     have s23 := s2.trans s3
     rw [lls, hlen]
     have s4 := same_upd (o := .lst [.int (rowsOf (laid w.toNat d)).length, .int (longest (laid w.toNat d) : Nat), .int (laid w.toNat d).out.length]) n1
     refine ⟨_, rfl, b, _, bdx, _, _, rfl, s4 _ _ (s3 _ _ L.at_), T.cl_Laying, T.n_Laying_written, rfl, l1, wr, _, _, rfl, rfl, upd_same, s4 _ _ (s3 _ _ L.wr_), ?_, fun l2 n2 => ?_⟩
     ·rw [hlen]
      exact line_le (by show 3 + _ ≤ _; omega)
     ·refine q _ l2 (s23.free (s4.free n2)) ((s23.trans s4).trans (same_upd n2)) ?_
      rw [upd_same]
      unfold shownI Vafmtb.written
      rw [List.length_reverse]
      rfl
theorem rowNums_len : ∀ l : List VRow, (rowNums l).length = 3 * l.length
 | [] => rfl
 | r :: l => by
  have ih := rowNums_len l
  unfold rowNums at ih ⊢
  rw [List.flatMap_cons, List.length_append, ih]
  show 3 + 3 * l.length = 3 * (l.length + 1)
  omega
theorem ok_Desk_answer_lines (T : Tx A K mg) : FnOk P w K mg base CX0 10 A.f_Desk_answer_lines A.fd_Desk_answer_lines ["self", "w", "k"] (sp_Desk_answer_lines A) := by
 have nd := sc_Desk_answer_lines.nd
 refine T.F_Desk_answer_lines.ok sc_Desk_answer_lines (fun vs H Q E h => ?_) (fun cdv Ar outer s H vs Q E hr h => ?_)
 ·obtain ⟨a, dx, dl, fs, ds, w, k, rfl, _⟩ := h
  rfl
 ·obtain ⟨a, dx, dl, fs, ds, w, k, rfl, R, q⟩ := h
  refine ⟨_, (pss_cons (ps_set (i := 3) nd rfl (by first | exact Or.inl rfl | exact Or.inr rfl) (pe_meth (pv 0) T.cl_Desk T.m_Desk_laying_refusal (ok_Desk_laying_refusal T) (hr.mono (by decide)) T.b_Desk_laying_refusal .nil pass0 (pa_cons (pv 1) (pa_cons (pv 2) pa_nil)))) (pss_cons (ps_if (pt_cmpR op_notN (pv 3) pe_non (nomark _)) (pss_one (ps_ret (pe_lst (pa_cons (pv 3) pa_nil)))) pss_nil) (pss_cons (ps_set (i := 4) nd rfl (by first | exact Or.inl rfl | exact Or.inr rfl) (pe_fld (pe_call (ok_lay_out T) (hr.mono (by decide)) rfl T.mg_lay_out T.kp_lay_out T.b_lay_out .nil pass0 (pa_cons (pe_ix ix_list (pe_fld (pv 0) rfl) (pv 2) (fun _ _ => rfl)) (pa_cons (pv 1) (pa_cons pe_bl pa_nil)))) rfl)) (pss_one (ps_ret (pe_op op_cat (pe_lst (pa_cons (pe_callB call_lenR rfl T.b_len PySem.boot_len (pa_cons (pe_fld (pv 4) rfl) pa_nil)) pa_nil)) (pe_meth0 (pv 4) T.cl_Lines T.m_Lines_told_numbers (ok_Lines_told_numbers T) (hr.mono (by decide)) T.b_Lines_told_numbers .nil pass0))))))), ?_⟩
  refine ⟨_, rfl, a, dx, _, rfl, R.at_, R.m2, _, rfl, _, rfl, a, dx, dl, fs, ds, w, k, rfl, R, ?_⟩
  unfold onW onD at q
  unfold refusal
  by_cases hw : w < 0 ∨ 1000 < w
  ·rw [if_pos hw] at q ⊢
   exact ⟨_, rfl, rfl, _, rfl, iteT ⟨_, rfl, (by show 1 ≤ sizeLine; decide), new_one q (.refl _)⟩⟩
  ·rw [if_neg hw] at q ⊢
   cases hb : heldB ds k with
   | false =>
    rw [if_neg Bool.false_ne_true]
    rw [held_none hb] at q
    exact ⟨_, rfl, rfl, _, rfl, iteT ⟨_, rfl, (by show 1 ≤ sizeLine; decide), new_one q (.refl _)⟩⟩
   | true =>
    rw [if_pos rfl]
    obtain ⟨d, h1, h2, h3, h4⟩ := held_some hb
    rw [h1] at q
    simp only at q
    have hG := R.good d h4
    obtain ⟨as, da, hdl, hda, hD⟩ := R.docsA.get h2
    refine ⟨_, rfl, rfl, _, rfl, iteF ?_⟩
    have ew : w = ((w.toNat : Nat) : Int) := by omega
    refine ⟨_, rfl, a, _, dx, _, _, rfl, R.at_, T.cl_Desk, T.n_Desk_documents, R.docs, _, rfl, dl, _, _, _, rfl, rfl, SqL.of hdl, at_of (j := k.toNat) (by omega) hda, _, rfl, da, .int w, d, w.toNat, false, rfl, .inl (congrArg V.int ew), hD, hG, fun H0 H2 b bdx pen wr fg cm ln fo O s2 nb => ?_⟩
    have L := O.lay
    have hsz := hG.size
    have hfew := O.few
    have eM : stepsOf w.toNat d.size (begunF false d) = laid w.toNat d := rfl
    rw [eM] at L hfew
    obtain ⟨ls, hl1, hl2⟩ := L.lin_
    obtain ⟨dn, hln⟩ := hl1.at_
    have lls : (ls.map V.ref).length = (rowsOf (laid w.toNat d)).length := by
     rw [List.length_map]
     exact Paired.length hl1.ls_
    refine ⟨b, _, bdx, _, _, rfl, L.at_, T.cl_Laying, T.n_Laying_lines, rfl, ?_⟩
    refine ⟨_, rfl, ln, _, dn, _, _, rfl, hln, T.cl_Lines, T.n_Lines_found, rfl, fo, _, rfl, .inl (SqL.of hl1.fo_), (by show 1 ≤ sizeLine; decide), fun l1 n1 => ?_⟩
    rw [lls]
    have s3 := same_upd (o := .lst [.int (rowsOf (laid w.toNat d)).length]) n1
    refine ⟨_, rfl, ln, dn, _, rfl, s3 _ _ hln, rfl, ln, fo, ls, _, _, rfl, hl1.mono s3, (by show (rowsOf (laid w.toNat d)).length ≤ 100000; omega), fun H4 l4 n4 s4 hl4 => ?_⟩
    refine ⟨l1, l4, _, _, rfl, rfl, s4 _ _ upd_same, hl4, ?_, fun l5 n5 => ?_⟩
    ·rw [intsV_length, rowNums_len]
     exact line_le (by show 1 + 3 * (rowsOf (laid w.toNat d)).length ≤ _; omega)
    ·refine q _ l5 (s2.free (s3.free (s4.free n5))) ((s2.trans s3).trans (s4.trans (same_upd n5))) ?_
     rw [upd_same]
     rfl
theorem ok_Desk_answer_least (T : Tx A K mg) : FnOk P w K mg base CX0 11 A.f_Desk_answer_least A.fd_Desk_answer_least ["self", "k"] (sp_Desk_answer_least A) := by
 have nd := sc_Desk_answer_least.nd
 refine T.F_Desk_answer_least.ok sc_Desk_answer_least (fun vs H Q E h => ?_) (fun cdv Ar outer s H vs Q E hr h => ?_)
 ·obtain ⟨a, dx, dl, fs, ds, k, rfl, _⟩ := h
  rfl
 ·obtain ⟨a, dx, dl, fs, ds, k, rfl, R, q⟩ := h
  unfold onD at q
  refine ⟨_, (pss_cons (ps_if (pt_not (pt_truth (pe_meth (pv 0) T.cl_Desk T.m_Desk_holds (ok_Desk_holds T) (hr.mono (by decide)) T.b_Desk_holds .nil pass0 (pa_cons (pv 1) pa_nil)) (fun _ => rfl))) (pss_one (ps_ret (pe_lst (pa_cons (pe_gint rfl T.c_NO_DOCUMENT) pa_nil)))) pss_nil) (pss_one (ps_ret (pe_lst (pa_cons (pe_call (ok_least_width T) (hr.mono (by decide)) rfl T.mg_least_width T.kp_least_width T.b_least_width .nil pass0 (pa_cons (pe_ix ix_list (pe_fld (pv 0) rfl) (pv 1) (fun _ _ => rfl)) pa_nil)) pa_nil))))), ?_⟩
  refine ⟨_, rfl, a, dx, _, rfl, R.at_, R.m1, _, rfl, a, dx, dl, fs, ds, k, rfl, R, _, rfl, ?_⟩
  cases hb : heldB ds k with
  | false =>
   rw [held_none hb] at q
   exact ⟨(by show 1 ≤ sizeLine; decide), new_one q (.refl _)⟩
  | true =>
   obtain ⟨d, h1, h2, h3, h4⟩ := held_some hb
   rw [h1] at q
   have hG := R.good d h4
   obtain ⟨as, da, hdl, hda, hD⟩ := R.docsA.get h2
   refine iteF ?_
   exact ⟨_, rfl, a, _, dx, _, _, rfl, R.at_, T.cl_Desk, T.n_Desk_documents, R.docs, _, rfl, dl, _, _, _, rfl, rfl, SqL.of hdl, at_of (j := k.toNat) (by omega) hda, da, d, rfl, hD, hG, fun H2 s2 => ⟨(by show 1 ≤ sizeLine; decide), new_one q s2⟩⟩
end
end WL
set_option Elab.async false
set_option linter.all false
set_option maxRecDepth 100000
set_option maxHeartbeats 2000000
namespace WL
open PySem PySem.Spec PyProof.Rows L2
open Vafmtb (Doc Held Cmd Mach stepsOf heldAt machOf begun heldNumber heldAtOf)
def deskF (dl : Addr) (lv : V) : List (Str × V) := [("documents", .ref dl), ("laying", lv)]
theorem desk_cmd {C dx C' dy dl : Addr} {lv : V} {p i : Int} {f : Bool} : HO.ins C dx (cmdF p i f) ≠ HO.ins C' dy (deskF dl lv) := ins_ne (by
 show ¬ ([("place" : Str), "indent", "flat"] = [("documents" : Str), "laying"])
 decide +kernel)
def LaySt (A : Ad) (He Hd H : Hp) (a dl : Addr) (lv : V) : Option Vafmtb.Laying → Prop
 | none => lv = .non
 | some l => ∃ (H0 : Hp) (la dx doc pen wr fg cm ln fo : Addr) (gr : Nat), lv = .ref la ∧ LayOk A H0 H la dx doc pen wr fg cm ln fo (.int l.width) gr l.doc l.width l.done (machOf l) ∧ DocAt A Hd doc l.doc ∧ Same He H0 ∧ Same Hd H0 ∧ (∃ o, H0 a = some o) ∧ (∃ o, H0 dl = some o) ∧ l.done ≤ l.doc.size
structure DeskS (A : Ad) (He Hd H : Hp) (a dx dl : Addr) (lv : V) (st : Vafmtb.State) : Prop where
 dsk : DeskW A Hd H a dx dl (deskF dl lv) st.docs
 lay : LaySt A He Hd H a dl lv st.laying
 out : Same He H
 o1 : He a = none
 o2 : He dl = none
 o3 : ∀ b o, He b = some o → Hd b = none
def DeskAt (A : Ad) (He H : Hp) (a dx dl : Addr) (st : Vafmtb.State) : Prop := ∃ Hd lv, DeskS A He Hd H a dx dl lv st
section
variable {A : Ad} {He Hd H H' : Hp} {a dx dl : Addr} {lv : V} {st : Vafmtb.State}
theorem LayOk.mono {H0 : Hp} {a dx doc pen wr fg cm ln fo : Addr} {wv : V} {gr w n : Nat} {root : Doc} {m : Mach} (O : LayOk A H0 H a dx doc pen wr fg cm ln fo wv gr root w n m) (s : Same H H') : LayOk A H0 H' a dx doc pen wr fg cm ln fo wv gr root w n m := { O with lay := O.lay.mono s }
theorem LaySt.mono : ∀ {ol : Option Vafmtb.Laying}, LaySt A He Hd H a dl lv ol → Same H H' → LaySt A He Hd H' a dl lv ol
 | none, h, _ => h
 | some l, ⟨H0, la, dx, doc, pen, wr, fg, cm, ln, fo, gr, e, O, r⟩, s => ⟨H0, la, dx, doc, pen, wr, fg, cm, ln, fo, gr, e, O.mono s, r⟩
theorem DeskS.mono (D : DeskS A He Hd H a dx dl lv st) (s : Same H H') : DeskS A He Hd H' a dx dl lv st := { D with dsk := D.dsk.mono s, lay := D.lay.mono s, out := D.out.trans s }
theorem LaySt.put {Hd' : Hp} {xs : List V} {o1 : HO} : ∀ {ol : Option Vafmtb.Laying}, LaySt A He Hd H a dl lv ol → But dl H H' → H dl = some (.lst xs) → H' dl = some o1 → Same Hd Hd' → (∀ b o, H b = some o → Hd' b = Hd b) → Same Hd' H' → Hd dl = none → He dl = none → a ≠ dl → Same He H → LaySt A He Hd' H' a dl lv ol
 | none, h, _, _, _, _, _, _, _, _, _, _ => h
 | some l, ⟨H0, la, dx, doc, pen, wr, fg, cm, ln, fo, gr, e, O, hD, s1, s2, ⟨oa, ha⟩, ⟨od, hdl⟩, hle⟩, k, hl, hl', sd, od', sd', n1, n2, nad, sH => by
  have b0 := O.lay.base
  obtain ⟨G, eG⟩ : ∃ G : Hp, G = fun b => if b = dl then H' dl else match H b with | none => H' b | some _ => H0 b := ⟨_, rfl⟩
  have gdl : G dl = H' dl := by rw [eG]; exact if_pos rfl
  have gnew : ∀ b, b ≠ dl → H b = none → G b = H' b := fun b h1 h2 => by
   rw [eG]
   show (if b = dl then H' dl else match H b with | none => H' b | some _ => H0 b) = _
   rw [if_neg h1, h2]
  have gold : ∀ b o, b ≠ dl → H b = some o → G b = H0 b := fun b o h1 h2 => by
   rw [eG]
   show (if b = dl then H' dl else match H b with | none => H' b | some _ => H0 b) = _
   rw [if_neg h1, h2]
  clear eG
  have sG : Same G H' := fun b o h => by
   by_cases hb : b = dl
   ·rw [hb, gdl] at h
    rw [hb]
    exact h
   ·cases hz : H b with
    | none =>
     rw [gnew b hb hz] at h
     exact h
    | some u =>
     rw [gold b u hb hz] at h
     exact k _ _ (b0 _ _ h) hb
  have sd2 : Same Hd' G := fun b o h => by
   by_cases hb : b = dl
   ·rw [hb, od' _ _ hl, n1] at h
    cases h
   ·cases hz : H b with
    | none =>
     rw [gnew b hb hz]
     exact sd' _ _ h
    | some u =>
     rw [gold b u hb hz]
     rw [od' _ _ hz] at h
     exact s2 _ _ h
  have hD' := hD.mono sd
  refine ⟨G, la, dx, doc, pen, wr, fg, cm, ln, fo, gr, e, { O with lay := O.lay.out k ⟨od, hdl⟩ (fun c dy p i f h => ne_of h hl (by intro z; cases z)) sG (hD'.mono sd2) fun b h1 ⟨o, h2⟩ => ?_ }, hD', fun b o h => ?_, sd2, ⟨oa, ?_⟩, ⟨o1, ?_⟩, hle⟩
  ·have hb : b ≠ dl := (ne_of_none hdl h1).symm
   rw [gold b o hb h2]
   exact h1
  ·have hb : b ≠ dl := ne_of_none h n2
   rw [gold b o hb (sH _ _ h)]
   exact s1 _ _ h
  ·rw [gold a oa nad (b0 _ _ ha)]
   exact ha
  ·rw [gdl]
   exact hl'
theorem DeskS.ext {p : Addr} {xs ys : List V} (D : DeskS A He Hd H a dx dl lv st) (hp : He p = some (.lst xs)) : DeskS A (upd He p (.lst ys)) Hd (upd H p (.lst ys)) a dx dl lv st := by
 have np : Hd p = none := D.o3 _ _ hp
 have hpH := D.out _ _ hp
 have nap : a ≠ p := (ne_of_none hp D.o1).symm
 have ndp : dl ≠ p := (ne_of_none hp D.o2).symm
 have k : But p H (upd H p (.lst ys)) := .upd _ _ _
 refine ⟨?_, ?_, ?_, by rw [upd_ne nap]; exact D.o1, by rw [upd_ne ndp]; exact D.o2, fun b o h => ?_⟩
 ·obtain ⟨as, h1, h2⟩ := D.dsk.lst
  exact { D.dsk with at_ := k _ _ D.dsk.at_ nap, lst := ⟨as, k _ _ h1 ndp, h2⟩, base := D.dsk.base.wr np }
 ·have hL := D.lay
  generalize st.laying = ol at hL
  cases ol with
  | none => exact hL
  | some l =>
   obtain ⟨H0, la, dx', doc, pen, wr, fg, cm, ln, fo, gr, e, O, hD, s1, s2, ⟨oa, ha⟩, ⟨od, hdl⟩, hle⟩ := hL
   have sG : Same (upd H0 p (.lst ys)) (upd H p (.lst ys)) := fun b o h => by
    by_cases hb : b = p
    ·rw [hb, upd_same] at h ⊢
     exact h
    ·rw [upd_ne hb] at h ⊢
     exact O.lay.base _ _ h
   have sd : Same Hd (upd H0 p (.lst ys)) := s2.wr np
   refine ⟨upd H0 p (.lst ys), la, dx', doc, pen, wr, fg, cm, ln, fo, gr, e, { O with lay := O.lay.out k ⟨_, s1 _ _ hp⟩ (fun c dy q i f h => ne_of h hpH (by intro z; cases z)) sG (hD.mono sd) fun b h1 _ => ?_ }, hD, fun b o h => ?_, sd, ⟨oa, by rw [upd_ne nap]; exact ha⟩, ⟨od, by rw [upd_ne ndp]; exact hdl⟩, hle⟩
   ·rw [upd_ne (ne_of_none (s1 _ _ hp) h1).symm]
    exact h1
   ·by_cases hb : b = p
    ·rw [hb, upd_same] at h ⊢
     exact h
    ·rw [upd_ne hb] at h ⊢
     exact s1 _ _ h
 ·intro b o h
  by_cases hb : b = p
  ·rw [hb, upd_same] at h ⊢
   exact h
  ·rw [upd_ne hb] at h ⊢
   exact D.out _ _ h
 ·by_cases hb : b = p
  ·rw [hb]
   exact np
  ·rw [upd_ne hb] at h
   exact D.o3 _ _ h
theorem DeskS.lays {H1 H2 : Hp} {x dxx da pen wr fg cm ln fo : Addr} {gr w n : Nat} {d : Doc} {m : Mach} (D : DeskS A He Hd H a dx dl lv st) (s1 : Same H H1) (nx : H x = none) (hDd : DocAt A Hd da d) (O : LayOk A (hide H1 x) H2 x dxx da pen wr fg cm ln fo (.int w) gr d w n m) (hn : n ≤ d.size) (hm : m = machOf ⟨w, d, n⟩) :
    DeskS A He Hd (upd H2 a (.ins A.C_Desk dx (deskF dl (.ref x)))) a dx dl (.ref x) { st with laying := some ⟨w, d, n⟩ } := by
  have sh : Same H (hide H1 x) := fun b o e => by
    rw [hide_ne (ne_of_none e nx)]
    exact s1 _ _ e
  have b0 := O.lay.base
  have s2 : Same H H2 := sh.trans b0
  have k : But a H2 (upd H2 a (.ins A.C_Desk dx (deskF dl (.ref x)))) := .upd _ _ _
  have hA := s2 _ _ D.dsk.at_
  obtain ⟨as, hl1, hl2⟩ := D.dsk.lst
  have nad : dl ≠ a := ne_of hl1 D.dsk.at_ (by intro z; cases z)
  have sG : Same (upd (hide H1 x) a (.ins A.C_Desk dx (deskF dl (.ref x)))) (upd H2 a (.ins A.C_Desk dx (deskF dl (.ref x)))) := fun b o h => by
    by_cases hb : b = a
    · rw [hb, upd_same] at h ⊢
      exact h
    · rw [upd_ne hb] at h ⊢
      exact b0 _ _ h
  have sd : Same Hd (upd (hide H1 x) a (.ins A.C_Desk dx (deskF dl (.ref x)))) := (D.dsk.base.trans sh).wr D.dsk.n1
  refine ⟨?_, ?_, (D.out.trans s2).wr D.o1, D.o1, D.o2, D.o3⟩
  · exact { at_ := upd_same, docs := rfl, lst := ⟨as, k _ _ (s2 _ _ hl1) nad, hl2⟩, base := (D.dsk.base.trans s2).wr D.dsk.n1, n1 := D.dsk.n1, n2 := D.dsk.n2, good := D.dsk.good, few := D.dsk.few, m1 := rfl, m2 := rfl }
  · refine ⟨upd (hide H1 x) a (.ins A.C_Desk dx (deskF dl (.ref x))), x, dxx, da, pen, wr, fg, cm, ln, fo, gr, rfl, ?_, hDd, (D.out.trans sh).wr D.o1, sd, ⟨_, upd_same⟩, ⟨_, by rw [upd_ne nad]; exact sh _ _ hl1⟩, hn⟩
    rw [← hm]
    refine { O with lay := O.lay.out k ⟨_, sh _ _ D.dsk.at_⟩ (fun c dy p i f h => ne_of h hA desk_cmd) sG (hDd.mono sd) fun b h1 _ => ?_ }
    rw [upd_ne (ne_of_none (sh _ _ D.dsk.at_) h1).symm]
    exact h1
theorem DeskS.goes {H0 : Hp} {la dxx da pen wr fg cm ln fo : Addr} {gr n : Nat} {l : Vafmtb.Laying} {m : Mach} (D : DeskS A He Hd H a dx dl (.ref la) st) (b0 : Same H0 H) (O : LayOk A H0 H' la dxx da pen wr fg cm ln fo (.int l.width) gr l.doc l.width n m) (hD : DocAt A Hd da l.doc) (s1 : Same He H0) (s2 : Same Hd H0) (ha : ∃ o, H0 a = some o) (hdl : ∃ o, H0 dl = some o) (hn : n ≤ l.doc.size) (hm : m = machOf { l with done := n }) :
  DeskS A He Hd H' a dx dl (.ref la) { st with laying := some { l with done := n } } := by
 obtain ⟨oa, ha⟩ := ha
 obtain ⟨od, hdl⟩ := hdl
 have b1 := O.lay.base
 obtain ⟨as, hl1, hl2⟩ := D.dsk.lst
 have ea : oa = .ins A.C_Desk dx (deskF dl (.ref la)) := Option.some.inj ((b0 _ _ ha).symm.trans D.dsk.at_)
 have ed : od = .lst (as.map V.ref) := Option.some.inj ((b0 _ _ hdl).symm.trans hl1)
 refine ⟨?_, ?_, s1.trans b1, D.o1, D.o2, D.o3⟩
 ·exact { D.dsk with at_ := by rw [← ea]; exact b1 _ _ ha, lst := ⟨as, by rw [← ed]; exact b1 _ _ hdl, hl2⟩, base := s2.trans b1 }
 ·refine ⟨H0, la, dxx, da, pen, wr, fg, cm, ln, fo, gr, rfl, ?_, hD, s1, s2, ⟨oa, ha⟩, ⟨od, hdl⟩, hn⟩
  rw [← hm]
  exact O
end
theorem stepsOf_add (w : Nat) : ∀ (i j : Nat) (m : Mach), stepsOf w (i + j) m = stepsOf w j (stepsOf w i m)
 | 0, j, m => by rw [Nat.zero_add]; rfl
 | i + 1, j, m => by
  rw [show i + 1 + j = (i + j) + 1 by omega]
  exact stepsOf_add w i j (Vafmtb.step1 w m)
def DeskTo (A : Ad) (He : Hp) (a dx dl : Addr) (r : Vafmtb.State × List Int) (Q : VK) : Prop := ∀ H' p, DeskAt A He H' a dx dl r.1 → He p = none → H' p = some (.lst (intsV r.2)) → Q (.ref p) H'
theorem to_new {A : Ad} {He Hd H H1 : Hp} {a dx dl : Addr} {lv : V} {st : Vafmtb.State} {l : List Int} {Q : VK} (D : DeskS A He Hd H a dx dl lv st) (q : DeskTo A He a dx dl (st, l) Q) (s : Same H H1) : ∀ p, H1 p = none → Q (.ref p) (upd H1 p (.lst (intsV l))) := fun p hp => q _ p ⟨Hd, lv, D.mono (s.trans (same_upd hp))⟩ (D.out.free (s.free hp)) upd_same
def sp_Desk_answer_begin (A : Ad) : Sp := fun vs H Q _ => ∃ (He Hd : Hp) (a dx dl : Addr) (lv : V) (st : Vafmtb.State) (w k : Int), vs = [.ref a, .int w, .int k] ∧ DeskS A He Hd H a dx dl lv st ∧ DeskTo A He a dx dl (Vafmtb.step st (.begin w k)) Q
def sp_Desk_answer_steps (A : Ad) : Sp := fun vs H Q _ => ∃ (He Hd : Hp) (a dx dl : Addr) (lv : V) (st : Vafmtb.State) (n : Int), vs = [.ref a, .int n] ∧ DeskS A He Hd H a dx dl lv st ∧ DeskTo A He a dx dl (Vafmtb.step st (.steps n)) Q
def sp_Desk_answer_look (A : Ad) : Sp := fun vs H Q _ => ∃ (He Hd : Hp) (a dx dl : Addr) (lv : V) (st : Vafmtb.State), vs = [.ref a] ∧ DeskS A He Hd H a dx dl lv st ∧ DeskTo A He a dx dl (Vafmtb.step st .look) Q
def sp_Desk_answer_written (A : Ad) : Sp := fun vs H Q _ => ∃ (He Hd : Hp) (a dx dl : Addr) (lv : V) (st : Vafmtb.State), vs = [.ref a] ∧ DeskS A He Hd H a dx dl lv st ∧ DeskTo A He a dx dl (Vafmtb.step st .written) Q
def sp_Desk_answer_back (A : Ad) : Sp := fun vs H Q _ => ∃ (He Hd : Hp) (a dx dl : Addr) (lv : V) (st : Vafmtb.State) (n : Int), vs = [.ref a, .int n] ∧ DeskS A He Hd H a dx dl lv st ∧ DeskTo A He a dx dl (Vafmtb.step st (.back n)) Q
section
variable {P : Program} {w : World} {K : PySem.W.Frag} {mg : Str → Option Value} {base : Heap} {A : Ad}
theorem ok_Desk_answer_begin (T : Tx A K mg) : FnOk P w K mg base CX0 5 A.f_Desk_answer_begin A.fd_Desk_answer_begin ["self", "w", "k"] (sp_Desk_answer_begin A) := by
 have nd := sc_Desk_answer_begin.nd
 refine T.F_Desk_answer_begin.ok sc_Desk_answer_begin (fun vs H Q E h => ?_) (fun cdv Ar outer s H vs Q E hr h => ?_)
 ·obtain ⟨He, Hd, a, dx, dl, lv, st, w, k, rfl, _⟩ := h
  rfl
 ·obtain ⟨He, Hd, a, dx, dl, lv, st, w, k, rfl, D, q⟩ := h
  have R := D.dsk.r
  refine ⟨_, (pss_cons (ps_set (i := 3) nd rfl (by first | exact Or.inl rfl | exact Or.inr rfl) (pe_meth (pv 0) T.cl_Desk T.m_Desk_laying_refusal (ok_Desk_laying_refusal T) (hr.mono (by decide)) T.b_Desk_laying_refusal .nil pass0 (pa_cons (pv 1) (pa_cons (pv 2) pa_nil)))) (pss_cons (ps_if (pt_cmpR op_notN (pv 3) pe_non (nomark _)) (pss_one (ps_ret (pe_lst (pa_cons (pv 3) pa_nil)))) pss_nil) (pss_cons (ps_fld (pv 0) (pe_make T.k_Laying (ok_Laying___init__ T) (hr.mono (by decide)) rfl T.mg_Laying T.b_Laying___init__ .nil pass0 (pa_cons (pe_ix ix_list (pe_fld (pv 0) rfl) (pv 2) (fun _ _ => rfl)) (pa_cons (pv 1) (pa_cons pe_bl pa_nil)))) rfl) (pss_one (ps_ret (pe_lst (pa_cons (pe_callB call_lenR rfl T.b_len PySem.boot_len (pa_cons (pe_fld (pe_fld (pv 0) rfl) rfl) pa_nil)) pa_nil))))))), ?_⟩
  refine ⟨_, rfl, a, dx, _, rfl, R.at_, R.m2, _, rfl, _, rfl, a, dx, dl, _, _, w, k, rfl, R, ?_⟩
  unfold refusal
  have q' : DeskTo A He a dx dl (if w < 0 ∨ 1000 < w then (st, [-3]) else match heldAt st.docs k with
   | none => (st, [-2])
   | some d => ({ st with laying := some { width := w.toNat, doc := d, done := 0 } }, [1])) Q := q
  by_cases hw : w < 0 ∨ 1000 < w
  ·rw [if_pos hw] at q' ⊢
   exact ⟨_, rfl, rfl, _, rfl, iteT ⟨_, rfl, (by show 1 ≤ sizeLine; decide), to_new D q' (.refl _)⟩⟩
  ·rw [if_neg hw] at q' ⊢
   cases hb : heldB st.docs k with
   | false =>
    rw [if_neg Bool.false_ne_true]
    rw [held_none hb] at q'
    exact ⟨_, rfl, rfl, _, rfl, iteT ⟨_, rfl, (by show 1 ≤ sizeLine; decide), to_new D q' (.refl _)⟩⟩
   | true =>
    rw [if_pos rfl]
    obtain ⟨d, h1, h2, h3, h4⟩ := held_some hb
    rw [h1] at q'
    simp only at q'
    have hG := R.good d h4
    obtain ⟨as, hdl, hdas⟩ := D.dsk.lst
    obtain ⟨da, hda', hDd⟩ := paired_back hdas h2
    have hda : (as.map V.ref)[k.toNat]? = some (V.ref da) := by
     rw [List.getElem?_map, hda']
     rfl
    refine ⟨_, rfl, rfl, _, rfl, iteF ?_⟩
    have ew : w = ((w.toNat : Nat) : Int) := by omega
    refine ⟨_, rfl, a, _, dx, _, _, rfl, R.at_, T.cl_Desk, T.n_Desk_documents, R.docs, _, rfl, dl, _, _, _, rfl, rfl, SqL.of hdl, at_of (j := k.toNat) (by omega) hda, _, rfl, ?_⟩
    intro x dxx nx ndx nex
    have s1 : Same H (upd (upd H dxx (.own x)) x (.ins A.C_Laying dxx [])) := fun z o e => by
     rw [upd_ne (ne_of_none e nx), upd_ne (ne_of_none e ndx)]
     exact e
    have x1 : (upd (upd H dxx (.own x)) x (.ins A.C_Laying dxx [])) x = some (.ins A.C_Laying dxx []) := upd_same
    generalize upd (upd H dxx (.own x)) x (.ins A.C_Laying dxx []) = H1 at s1 x1 ⊢
    refine ⟨x, dxx, da, .int w, d, w.toNat, false, rfl, .inl (congrArg V.int ew), x1, (hDd.mono D.dsk.base).mono s1, hG, fun H2 pen wr fg cm ln fo O2 => ⟨rfl, ?_⟩⟩
    rw [ew] at O2
    simp only [Int.toNat_natCast] at O2
    have sh : Same H (hide H1 x) := fun z o e => by
     rw [hide_ne (ne_of_none e nx)]
     exact s1 _ _ e
    have s2 : Same H H2 := sh.trans O2.lay.base
    refine ⟨_, rfl, a, _, dx, _, rfl, s2 _ _ R.at_, T.cl_Desk, T.n_Desk_laying, (by show 2 < 1000; decide), ?_⟩
    have D3 := D.lays s1 nx hDd O2 (Nat.zero_le _) rfl
    have e0 : putF "laying" (.ref x) (deskF dl lv) = deskF dl (.ref x) := rfl
    rw [e0]
    have xa : x ≠ a := (ne_of_none R.at_ nx).symm
    have x3 : (upd H2 a (.ins A.C_Desk dx (deskF dl (.ref x)))) x = some (.ins A.C_Laying dxx (layF da pen wr ln fg cm ⟨.int w.toNat, 0, 0, (begunF false d).met, Vafmtb.rowsOf (begunF false d)⟩)) := by
     rw [upd_ne xa]
     exact O2.lay.at_
    obtain ⟨cs, hcm, hcs⟩ := O2.lay.cm_
    have c3 : (upd H2 a (.ins A.C_Desk dx (deskF dl (.ref x)))) cm = some (.lst (cs.reverse.map V.ref)) := by
     rw [upd_ne (ne_of hcm (s2 _ _ R.at_) (by intro z; cases z))]
     exact hcm
    have lcs : (cs.reverse.map V.ref).length = 1 := by
     rw [List.length_map, List.length_reverse, Paired.length hcs]
     rfl
    generalize upd H2 a (.ins A.C_Desk dx (deskF dl (.ref x))) = H3 at D3 x3 c3 ⊢
    refine ⟨_, rfl, a, _, dx, _, _, rfl, D3.dsk.at_, T.cl_Desk, T.n_Desk_laying, rfl, x, _, dxx, _, _, rfl, x3, T.cl_Laying, T.n_Laying_commands, rfl, cm, _, rfl, .inl (SqL.of c3), (by show 1 ≤ sizeLine; decide), fun p hp => ?_⟩
    refine q' _ p ⟨Hd, _, D3.mono (same_upd hp)⟩ (D3.out.free hp) ?_
    rw [upd_same, lcs]
    rfl
theorem ok_Desk_answer_steps (T : Tx A K mg) : FnOk P w K mg base CX0 9 A.f_Desk_answer_steps A.fd_Desk_answer_steps ["self", "n"] (sp_Desk_answer_steps A) := by
 have nd := sc_Desk_answer_steps.nd
 refine T.F_Desk_answer_steps.ok sc_Desk_answer_steps (fun vs H Q E h => ?_) (fun cdv Ar outer s H vs Q E hr h => ?_)
 ·obtain ⟨He, Hd, a, dx, dl, lv, st, n, rfl, _⟩ := h
  rfl
 ·obtain ⟨He, Hd, a, dx, dl, lv, st, n, rfl, D, q⟩ := h
  refine ⟨_, (pss_cons (ps_if (pt_cmpR op_isN (pe_fld (pv 0) rfl) pe_non (nomark _)) (pss_one (ps_ret (pe_lst (pa_cons (pe_gint rfl T.c_NOTHING_THERE) pa_nil)))) pss_nil) (pss_cons (ps_if (pt_cmpR op_lt (pv 1) pe_int (nomark _)) (pss_one (ps_ret (pe_lst (pa_cons (pe_gint rfl T.c_NO_COUNT) pa_nil)))) pss_nil) (pss_cons (ps_set (i := 2) nd rfl (by first | exact Or.inl rfl | exact Or.inr rfl) (pe_fld (pe_fld (pv 0) rfl) rfl)) (pss_cons (ps_expr (pe_meth (pe_fld (pv 0) rfl) T.cl_Laying T.m_Laying_advance (ok_Laying_advance T) (hr.mono (by decide)) T.b_Laying_advance .nil pass0 (pa_cons (pv 1) pa_nil))) (pss_one (ps_ret (pe_lst (pa_cons (pe_op op_sub (pe_fld (pe_fld (pv 0) rfl) rfl) (pv 2)) (pa_cons (pe_callB call_lenR rfl T.b_len PySem.boot_len (pa_cons (pe_fld (pe_fld (pv 0) rfl) rfl) pa_nil)) pa_nil))))))))), ?_⟩
  refine ⟨_, rfl, a, _, dx, _, _, rfl, D.dsk.at_, T.cl_Desk, T.n_Desk_laying, rfl, rfl, _, rfl, ?_⟩
  have hL := D.lay
  have q' : DeskTo A He a dx dl (match st.laying with
   | none => (st, [-9])
   | some l => if n < 0 then (st, [-6]) else ({ st with laying := some { l with done := l.done + min n.toNat (l.doc.size - l.done) } }, [Vafmtb.nat (min n.toNat (l.doc.size - l.done)), Vafmtb.nat (machOf { l with done := l.done + min n.toNat (l.doc.size - l.done) }).cmds.length])) Q := q
  cases ho : st.laying with
  | none =>
   rw [ho] at hL q'
   have hl' : lv = .non := hL
   subst hl'
   exact iteT ⟨(by show 1 ≤ sizeLine; decide), to_new D q' (.refl _)⟩
  | some l =>
   rw [ho] at hL q'
   obtain ⟨H0, la, dxl, doc, pen, wr, fg, cm, ln, fo, gr, rfl, O, hDd, s1, s2, ha, hdl, hle⟩ := hL
   refine iteF ?_
   simp only at q'
   refine ⟨_, rfl, _, _, rfl, rfl, _, rfl, ite_dec (fun hn => ?_) (fun hn => ?_)⟩
   ·rw [if_pos hn] at q'
    exact ⟨(by show 1 ≤ sizeLine; decide), to_new D q' (.refl _)⟩
   ·rw [if_neg hn] at q'
    have en : n = ((n.toNat : Nat) : Int) := by omega
    refine ⟨_, rfl, a, _, dx, _, _, rfl, D.dsk.at_, T.cl_Desk, T.n_Desk_laying, rfl, la, _, dxl, _, _, rfl, O.lay.at_, T.cl_Laying, T.n_Laying_taken, rfl, ?_⟩
    refine ⟨_, rfl, a, _, dx, _, _, rfl, D.dsk.at_, T.cl_Desk, T.n_Desk_laying, rfl, la, dxl, _, rfl, O.lay.at_, rfl, _, rfl, H0, la, dxl, doc, pen, wr, fg, cm, ln, fo, _, gr, l.doc, l.width, l.done, n.toNat, _, ?_, O, hle, fun H2 gr' O2 => ?_⟩
    ·rw [← en]
     rfl
    have D2 := D.goes (l := l) O.lay.base O2 hDd s1 s2 ha hdl (by omega) (stepsOf_add l.width l.done _ (begun l.doc)).symm
    generalize min n.toNat (l.doc.size - l.done) = k at q' O2 D2
    obtain ⟨cs, hcm, hcs⟩ := O2.lay.cm_
    have lcs : (cs.reverse.map V.ref).length = (machOf { l with done := l.done + k }).cmds.length := by
     rw [List.length_map, List.length_reverse, Paired.length hcs, cmdsP_length]
     congr 2
     exact (stepsOf_add l.width l.done _ (begun l.doc)).symm
    refine ⟨_, rfl, a, _, dx, _, _, rfl, D2.dsk.at_, T.cl_Desk, T.n_Desk_laying, rfl, la, _, dxl, _, _, rfl, O2.lay.at_, T.cl_Laying, T.n_Laying_taken, rfl, _, rfl, _, _, rfl, rfl, _, rfl, a, _, dx, _, _, rfl, D2.dsk.at_, T.cl_Desk, T.n_Desk_laying, rfl, la, _, dxl, _, _, rfl, O2.lay.at_, T.cl_Laying, T.n_Laying_commands, rfl, cm, _, rfl, .inl (SqL.of hcm), (by show 2 ≤ sizeLine; decide), fun p hp => ?_⟩
    refine q' _ p ⟨Hd, _, D2.mono (same_upd hp)⟩ (D2.out.free hp) ?_
    rw [upd_same, lcs]
    show some (HO.lst [V.int (((l.done + k : Nat) : Int) - (l.done : Int)), V.int _]) = some (HO.lst [V.int (k : Int), V.int _])
    rw [show ((l.done + k : Nat) : Int) - (l.done : Int) = (k : Int) by omega]
    rfl
end
end WL
set_option Elab.async false
set_option linter.all false
set_option maxRecDepth 100000
set_option maxHeartbeats 2000000
namespace WL
open PySem PySem.Spec PyProof.Rows L2
open Vafmtb (Doc Held Cmd Mach stepsOf heldAt machOf begun heldNumber heldAtOf)
theorem look_nums (l : Vafmtb.Laying) : Vafmtb.lookAnswer l = [(l.done : Int), ((machOf l).col : Int), (heldNumber (machOf l).held : Int), (heldAtOf (machOf l).held : Int), ((machOf l).cmds.length : Int)] ++ firstNums (machOf l) := by
 unfold Vafmtb.lookAnswer firstNums
 simp only
 cases (machOf l).cmds with
 | nil => rfl
 | cons c r =>
  obtain ⟨ci, cf, cd⟩ := c
  cases cf <;> rfl
section
variable {P : Program} {w : World} {K : PySem.W.Frag} {mg : Str → Option Value} {base : Heap} {A : Ad}
theorem ok_Desk_answer_look (T : Tx A K mg) : FnOk P w K mg base CX0 2 A.f_Desk_answer_look A.fd_Desk_answer_look ["self"] (sp_Desk_answer_look A) := by
 have nd := sc_Desk_answer_look.nd
 refine T.F_Desk_answer_look.ok sc_Desk_answer_look (fun vs H Q E h => ?_) (fun cdv Ar outer s H vs Q E hr h => ?_)
 ·obtain ⟨He, Hd, a, dx, dl, lv, st, rfl, _⟩ := h
  rfl
 ·obtain ⟨He, Hd, a, dx, dl, lv, st, rfl, D, q⟩ := h
  refine ⟨_, (pss_cons (ps_set (i := 1) nd rfl (by first | exact Or.inl rfl | exact Or.inr rfl) (pe_fld (pv 0) rfl)) (pss_cons (ps_if (pt_cmpR op_isN (pv 1) pe_non (nomark _)) (pss_one (ps_ret (pe_lst (pa_cons (pe_gint rfl T.c_NOTHING_THERE) pa_nil)))) pss_nil) (pss_cons (ps_set (i := 2) nd rfl (by first | exact Or.inl rfl | exact Or.inr rfl) (pe_fld (pv 1) rfl)) (pss_one (ps_ret (pe_op op_cat (pe_lst (pa_cons (pe_fld (pv 1) rfl) (pa_cons (pe_fld (pv 2) rfl) (pa_cons (pe_fld (pv 2) rfl) (pa_cons (pe_fld (pv 2) rfl) (pa_cons (pe_callB call_lenR rfl T.b_len PySem.boot_len (pa_cons (pe_fld (pv 1) rfl) pa_nil)) pa_nil)))))) (pe_meth0 (pv 1) T.cl_Laying T.m_Laying_tell_first (ok_Laying_tell_first T) (hr.mono (by decide)) T.b_Laying_tell_first .nil pass0))))))), ?_⟩
  refine ⟨_, rfl, a, _, dx, _, _, rfl, D.dsk.at_, T.cl_Desk, T.n_Desk_laying, rfl, ?_⟩
  refine ⟨_, rfl, rfl, _, rfl, ?_⟩
  have hL := D.lay
  have q' : DeskTo A He a dx dl (match st.laying with
   | none => (st, [-9])
   | some l => (st, Vafmtb.lookAnswer l)) Q := q
  cases ho : st.laying with
  | none =>
   rw [ho] at hL q'
   have hl' : lv = .non := hL
   subst hl'
   exact iteT ⟨(by show 1 ≤ sizeLine; decide), to_new D q' (.refl _)⟩
  | some l =>
   rw [ho] at hL q'
   obtain ⟨H0, la, dxl, doc, pen, wr, fg, cm, ln, fo, gr, rfl, O, hDd, s1, s2, ha, hdl, hle⟩ := hL
   refine iteF ?_
   simp only [look_nums] at q'
   obtain ⟨dp, hp⟩ := O.lay.pen_
   obtain ⟨cs, hcm, hcs⟩ := O.lay.cm_
   have lcs : (cs.reverse.map V.ref).length = (machOf l).cmds.length := by
    rw [List.length_map, List.length_reverse, Paired.length hcs, cmdsP_length]
   refine ⟨_, rfl, la, _, dxl, _, _, rfl, O.lay.at_, T.cl_Laying, T.n_Laying_pen, rfl, ?_⟩
   refine ⟨_, rfl, la, _, dxl, _, _, rfl, O.lay.at_, T.cl_Laying, T.n_Laying_taken, rfl, _, rfl, pen, _, dp, _, _, rfl, hp, T.cl_Pen, T.n_Pen_column, rfl, _, rfl, pen, _, dp, _, _, rfl, hp, T.cl_Pen, T.n_Pen_held, rfl, _, rfl, pen, _, dp, _, _, rfl, hp, T.cl_Pen, T.n_Pen_held_indent, rfl,
    _, rfl, la, _, dxl, _, _, rfl, O.lay.at_, T.cl_Laying, T.n_Laying_commands, rfl, cm, _, rfl, .inl (SqL.of hcm), (by show 5 ≤ sizeLine; decide), fun l1 n1 => ?_⟩
   rw [lcs]
   have s3 := same_upd (o := .lst [.int l.done, .int (machOf l).col, .int (heldNumber (machOf l).held), .int (heldAtOf (machOf l).held), .int (machOf l).cmds.length]) n1
   refine ⟨_, rfl, la, dxl, _, rfl, s3 _ _ O.lay.at_, rfl, H0, la, dxl, doc, pen, wr, fg, cm, ln, fo, _, gr, l.doc, l.width, l.done, _, rfl, O.mono s3, fun H4 l4 n4 s4 hl4 => ?_⟩
   have s34 := s3.trans s4
   refine ⟨l1, l4, _, _, rfl, rfl, s4 _ _ upd_same, hl4, ?_, fun l5 n5 => ?_⟩
   ·rw [intsV_length]
    have hf : (firstNums (machOf l)).length ≤ 3 := by
     unfold firstNums
     split <;> simp
    exact line_le (by show 5 + _ ≤ _; omega)
   ·refine q' _ l5 ⟨Hd, _, D.mono (s34.trans (same_upd n5))⟩ (D.out.free (s34.free n5)) ?_
    rw [upd_same, intsV_append]
    rfl
theorem ok_Desk_answer_written (T : Tx A K mg) : FnOk P w K mg base CX0 1 A.f_Desk_answer_written A.fd_Desk_answer_written ["self"] (sp_Desk_answer_written A) := by
 have nd := sc_Desk_answer_written.nd
 refine T.F_Desk_answer_written.ok sc_Desk_answer_written (fun vs H Q E h => ?_) (fun cdv Ar outer s H vs Q E hr h => ?_)
 ·obtain ⟨He, Hd, a, dx, dl, lv, st, rfl, _⟩ := h
  rfl
 ·obtain ⟨He, Hd, a, dx, dl, lv, st, rfl, D, q⟩ := h
  refine ⟨_, (pss_cons (ps_if (pt_cmpR op_isN (pe_fld (pv 0) rfl) pe_non (nomark _)) (pss_one (ps_ret (pe_lst (pa_cons (pe_gint rfl T.c_NOTHING_THERE) pa_nil)))) pss_nil) (pss_cons (ps_set (i := 1) nd rfl (by first | exact Or.inl rfl | exact Or.inr rfl) (pe_fld (pe_fld (pv 0) rfl) rfl)) (pss_cons (ps_if (pt_cmpR op_gt (pe_callB call_lenR rfl T.b_len PySem.boot_len (pa_cons (pv 1) pa_nil)) (pe_gint rfl T.c_MOST_WRITTEN) (nomark _)) (pss_one (ps_ret (pe_lst (pa_cons (pe_gint rfl T.c_TOO_LONG) pa_nil)))) pss_nil) (pss_one (ps_ret (pe_op op_cat (pe_lst (pa_cons (pe_callB call_lenR rfl T.b_len PySem.boot_len (pa_cons (pv 1) pa_nil)) pa_nil)) (pv 1))))))), ?_⟩
  refine ⟨_, rfl, a, _, dx, _, _, rfl, D.dsk.at_, T.cl_Desk, T.n_Desk_laying, rfl, rfl, _, rfl, ?_⟩
  have hL := D.lay
  have q' : DeskTo A He a dx dl (match st.laying with
   | none => (st, [-9])
   | some l => (st, if 20000 < (machOf l).out.length then [-8] else Vafmtb.shown (Vafmtb.written (machOf l)))) Q := q
  cases ho : st.laying with
  | none =>
   rw [ho] at hL q'
   have hl' : lv = .non := hL
   subst hl'
   exact iteT ⟨(by show 1 ≤ sizeLine; decide), to_new D q' (.refl _)⟩
  | some l =>
   rw [ho] at hL q'
   obtain ⟨H0, la, dxl, doc, pen, wr, fg, cm, ln, fo, gr, rfl, O, hDd, s1, s2, ha, hdl, hle⟩ := hL
   refine iteF ?_
   simp only at q'
   have L := O.lay
   have hout := O.bnd.out
   have hsz := O.good.size
   have hlen : (intsV (toInts (machOf l).out.reverse)).length = (machOf l).out.length := by rw [intsV_length, ints_length, List.length_reverse]
   refine ⟨_, rfl, a, _, dx, _, _, rfl, D.dsk.at_, T.cl_Desk, T.n_Desk_laying, rfl, la, _, dxl, _, _, rfl, L.at_, T.cl_Laying, T.n_Laying_written, rfl, ?_⟩
   refine ⟨_, rfl, wr, _, rfl, .inl (SqL.of L.wr_), _, _, rfl, rfl, _, rfl, ?_⟩
   rw [hlen]
   refine ite_dec (fun hk => ?_) (fun hk => ?_)
   ·rw [if_pos (by omega)] at q'
    exact ⟨(by show 1 ≤ sizeLine; decide), to_new D q' (.refl _)⟩
   ·rw [if_neg (by omega)] at q'
    refine ⟨_, rfl, wr, _, rfl, .inl (SqL.of L.wr_), (by show 1 ≤ sizeLine; decide), fun l1 n1 => ⟨_, rfl, ?_⟩⟩
    rw [hlen]
    have s3 := same_upd (o := .lst [.int (machOf l).out.length]) n1
    refine ⟨l1, wr, _, _, rfl, rfl, upd_same, s3 _ _ L.wr_, ?_, fun l2 n2 => ?_⟩
    ·rw [hlen]
     exact line_le (by show 1 + _ ≤ _; omega)
    ·refine q' _ l2 ⟨Hd, _, D.mono (s3.trans (same_upd n2))⟩ (D.out.free (s3.free n2)) ?_
     rw [upd_same]
     unfold Vafmtb.shown Vafmtb.written
     rw [List.length_reverse]
     rfl
theorem ok_Desk_answer_back (T : Tx A K mg) : FnOk P w K mg base CX0 9 A.f_Desk_answer_back A.fd_Desk_answer_back ["self", "n"] (sp_Desk_answer_back A) := by
 have nd := sc_Desk_answer_back.nd
 refine T.F_Desk_answer_back.ok sc_Desk_answer_back (fun vs H Q E h => ?_) (fun cdv Ar outer s H vs Q E hr h => ?_)
 ·obtain ⟨He, Hd, a, dx, dl, lv, st, n, rfl, _⟩ := h
  rfl
 ·obtain ⟨He, Hd, a, dx, dl, lv, st, n, rfl, D, q⟩ := h
  refine ⟨_, (pss_cons (ps_set (i := 2) nd rfl (by first | exact Or.inl rfl | exact Or.inr rfl) (pe_fld (pv 0) rfl)) (pss_cons (ps_if (pt_cmpR op_isN (pv 2) pe_non (nomark _)) (pss_one (ps_ret (pe_lst (pa_cons (pe_gint rfl T.c_NOTHING_THERE) pa_nil)))) pss_nil) (pss_cons (ps_if (pt_not (pt_chain op_le op_le pe_int (pv 1) (pe_fld (pv 2) rfl))) (pss_one (ps_ret (pe_lst (pa_cons (pe_gint rfl T.c_NO_COUNT) pa_nil)))) pss_nil) (pss_cons (ps_fld (pv 0) (pe_make T.k_Laying (ok_Laying___init__ T) (hr.mono (by decide)) rfl T.mg_Laying T.b_Laying___init__ .nil pass0 (pa_cons (pe_fld (pv 2) rfl) (pa_cons (pe_fld (pv 2) rfl) (pa_cons pe_bl pa_nil)))) rfl) (pss_cons (ps_expr (pe_meth (pe_fld (pv 0) rfl) T.cl_Laying T.m_Laying_advance (ok_Laying_advance T) (hr.mono (by decide)) T.b_Laying_advance .nil pass0 (pa_cons (pe_op op_sub (pe_fld (pv 2) rfl) (pv 1)) pa_nil))) (pss_one (ps_ret (pe_lst (pa_cons (pe_fld (pe_fld (pv 0) rfl) rfl) pa_nil))))))))), ?_⟩
  refine ⟨_, rfl, a, _, dx, _, _, rfl, D.dsk.at_, T.cl_Desk, T.n_Desk_laying, rfl, ?_⟩
  refine ⟨_, rfl, rfl, _, rfl, ?_⟩
  have hL := D.lay
  have q' : DeskTo A He a dx dl (match st.laying with
   | none => (st, [-9])
   | some l => if n < 0 ∨ (l.done : Int) < n then (st, [-6]) else ({ st with laying := some { l with done := l.done - n.toNat } }, [Vafmtb.nat (l.done - n.toNat)])) Q := q
  cases ho : st.laying with
  | none =>
   rw [ho] at hL q'
   have hl' : lv = .non := hL
   subst hl'
   exact iteT ⟨(by show 1 ≤ sizeLine; decide), to_new D q' (.refl _)⟩
  | some l =>
   rw [ho] at hL q'
   obtain ⟨H0, la, dxl, doc, pen, wr, fg, cm, ln, fo, gr, rfl, O, hDd, s1, s2, ha, hdl, hle⟩ := hL
   refine iteF ?_
   simp only at q'
   have L := O.lay
   refine ⟨_, rfl, _, _, rfl, rfl, _, rfl, ite_dec (fun h1 => ?_) (fun h1 => ?_)⟩
   ·refine ⟨_, rfl, la, _, dxl, _, _, rfl, L.at_, T.cl_Laying, T.n_Laying_taken, rfl, _, _, rfl, rfl, _, rfl, ?_⟩
    show if (!decide (n ≤ (l.done : Int))) = true then _ else _
    by_cases h2 : n ≤ (l.done : Int)
    ·rw [if_neg (by omega)] at q'
     rw [decide_eq_true h2]
     refine iteF ?_
     have hG := O.good
     refine ⟨_, rfl, la, _, dxl, _, _, rfl, L.at_, T.cl_Laying, T.n_Laying_document, rfl, _, rfl, la, _, dxl, _, _, rfl, L.at_, T.cl_Laying, T.n_Laying_width, rfl, ?_⟩
     intro x dxx nx ndx nex
     have t1 : Same H (upd (upd H dxx (.own x)) x (.ins A.C_Laying dxx [])) := fun z o e => by
      rw [upd_ne (ne_of_none e nx), upd_ne (ne_of_none e ndx)]
      exact e
     have x1 : (upd (upd H dxx (.own x)) x (.ins A.C_Laying dxx [])) x = some (.ins A.C_Laying dxx []) := upd_same
     generalize upd (upd H dxx (.own x)) x (.ins A.C_Laying dxx []) = H1 at t1 x1 ⊢
     refine ⟨x, dxx, doc, .int l.width, l.doc, l.width, false, rfl, .inl rfl, x1, (hDd.mono D.dsk.base).mono t1, hG, fun H2 pen2 wr2 fg2 cm2 ln2 fo2 O2 => ⟨rfl, ?_⟩⟩
     have sh : Same H (hide H1 x) := fun z o e => by
      rw [hide_ne (ne_of_none e nx)]
      exact t1 _ _ e
     have s2 : Same H H2 := sh.trans O2.lay.base
     refine ⟨_, rfl, a, _, dx, _, rfl, s2 _ _ D.dsk.at_, T.cl_Desk, T.n_Desk_laying, (by show 2 < 1000; decide), ?_⟩
     have D3 := D.lays t1 nx hDd O2 (Nat.zero_le _) rfl
     have e0 : putF "laying" (.ref x) (deskF dl (.ref la)) = deskF dl (.ref x) := rfl
     rw [e0]
     have la3 : (upd H2 a (.ins A.C_Desk dx (deskF dl (.ref x)))) la = some (.ins A.C_Laying dxl (layF doc pen wr ln fg cm ⟨.int l.width, gr, l.done, (machOf l).met, Vafmtb.rowsOf (machOf l)⟩)) := by
      rw [upd_ne (ne_of L.at_ D.dsk.at_ (ins_ne (by
       rw [lay_names]
       show ¬ (_ = [("documents" : Str), "laying"])
       decide +kernel)))]
      exact s2 _ _ L.at_
     generalize upd H2 a (.ins A.C_Desk dx (deskF dl (.ref x))) = H3 at D3 la3 ⊢
     obtain ⟨H03, x', dx3, da3, pen3, wr3, fg3, cm3, ln3, fo3, gr3, ex', O3, hDd3, s13, s23, ha3, hdl3, hle3⟩ := id D3.lay
     have ex2 : x = x' := V.ref.inj ex'
     subst ex2
     refine ⟨_, rfl, a, _, dx, _, _, rfl, D3.dsk.at_, T.cl_Desk, T.n_Desk_laying, rfl, x, dx3, _, rfl, O3.lay.at_, rfl, _, rfl, la, _, dxl, _, _, rfl, la3, T.cl_Laying, T.n_Laying_taken, rfl, _, rfl, _, _, rfl, rfl, H03, x, dx3, da3, pen3, wr3, fg3, cm3, ln3, fo3, _, gr3, l.doc, l.width, 0, l.done - n.toNat, _, ?_, O3, Nat.zero_le _, fun H4 gr4 O4 => ?_⟩
     ·show [V.ref x, V.int ((l.done : Int) - n)] = _
      rw [show ((l.done - n.toNat : Nat) : Int) = (l.done : Int) - n by omega]
     have ek : 0 + min (l.done - n.toNat) (l.doc.size - 0) = l.done - n.toNat := by omega
     have ek2 : min (l.done - n.toNat) (l.doc.size - 0) = l.done - n.toNat := by omega
     rw [ek, ek2] at O4
     have D4 := D3.goes (l := ⟨l.width, l.doc, 0⟩) O3.lay.base O4 hDd3 s13 s23 ha3 hdl3 (by show l.done - n.toNat ≤ l.doc.size; omega) rfl
     refine ⟨_, rfl, a, _, dx, _, _, rfl, D4.dsk.at_, T.cl_Desk, T.n_Desk_laying, rfl, x, _, dx3, _, _, rfl, O4.lay.at_, T.cl_Laying, T.n_Laying_taken, rfl, (by show 1 ≤ sizeLine; decide), fun p hp => ?_⟩
     exact q' _ p ⟨Hd, _, D4.mono (same_upd hp)⟩ (D4.out.free hp) upd_same
    ·rw [if_pos (by omega)] at q'
     rw [decide_eq_false h2]
     exact iteT ⟨(by show 1 ≤ sizeLine; decide), to_new D q' (.refl _)⟩
   ·rw [if_pos (by omega)] at q'
    exact ⟨_, rfl, (by show 1 ≤ sizeLine; decide), to_new D q' (.refl _)⟩
end
end WL
set_option Elab.async false
set_option linter.all false
set_option maxRecDepth 100000
set_option maxHeartbeats 2000000
namespace WL
open PySem PySem.Spec PyProof.Rows L2
open Vafmtb (Doc heldAt)
theorem e_told (st : Vafmtb.State) (k : Int) : (Vafmtb.step st (.told k)).2 = onD st.docs k fun d => natsI (d.size :: d.told) := by
 show Vafmtb.onDoc st k _ = _
 unfold Vafmtb.onDoc onD
 cases heldAt st.docs k <;> rfl
theorem e_size (st : Vafmtb.State) (k : Int) : (Vafmtb.step st (.size k)).2 = onD st.docs k fun d => natsI [d.size, d.depth, d.bytes, d.groups.length, if d.forced then 1 else 0] := by
 show Vafmtb.onDoc st k _ = _
 unfold Vafmtb.onDoc onD
 cases heldAt st.docs k <;> rfl
theorem e_flat (st : Vafmtb.State) (k : Int) : (Vafmtb.step st (.flat k)).2 = onD st.docs k fun d => if d.forced = true then [-7] else shownI (Vafmtb.written (Vafmtb.oneLine d)) := by
 show Vafmtb.onDoc st k _ = _
 unfold Vafmtb.onDoc onD
 cases heldAt st.docs k <;> rfl
theorem e_least (st : Vafmtb.State) (k : Int) : (Vafmtb.step st (.least k)).2 = onD st.docs k fun d => [(Vafmtb.leastWidth d : Int)] := by
 show Vafmtb.onDoc st k _ = _
 unfold Vafmtb.onDoc onD
 cases heldAt st.docs k <;> rfl
theorem onW_eq (st : Vafmtb.State) (w k : Int) (f g : Nat → Doc → List Int) (h : ∀ w d, f w d = g w d) : Vafmtb.onWidth st w k f = onW st.docs w k g := by
 unfold Vafmtb.onWidth onW Vafmtb.onDoc onD
 have e : (w < 0 ∨ Vafmtb.WIDTH < w) = (w < 0 ∨ 1000 < w) := rfl
 simp only [e]
 by_cases hw : w < 0 ∨ 1000 < w
 ·rw [if_pos hw, if_pos hw]
 ·rw [if_neg hw, if_neg hw]
  cases heldAt st.docs k with
  | none => rfl
  | some d => exact h _ d
theorem e_lay (st : Vafmtb.State) (w k : Int) : (Vafmtb.step st (.lay w k)).2 = onW st.docs w k fun w d => if 20000 < (Vafmtb.laid w d).out.length then [-8] else ((Vafmtb.rowsOf (Vafmtb.laid w d)).length : Int) :: (Vafmtb.longest (Vafmtb.laid w d) : Int) :: shownI (Vafmtb.written (Vafmtb.laid w d)) :=
 onW_eq st w k _ _ fun w d => rfl
theorem e_groups (st : Vafmtb.State) (w k : Int) : (Vafmtb.step st (.groups w k)).2 = onW st.docs w k fun w d => ((Vafmtb.laid w d).modes.length : Int) :: (Vafmtb.laid w d).modes.reverse.map fun b => if b = true then 1 else 0 := by
 refine onW_eq st w k (fun w d => Vafmtb.nat (Vafmtb.laid w d).modes.reverse.length :: (Vafmtb.laid w d).modes.reverse.map fun b => if b then 1 else 0) _ fun w d => ?_
 rw [List.length_reverse]
 rfl
theorem e_lines (st : Vafmtb.State) (w k : Int) : (Vafmtb.step st (.lines w k)).2 = onW st.docs w k fun w d => ((Vafmtb.rowsOf (Vafmtb.laid w d)).length : Int) :: rowNums (Vafmtb.rowsOf (Vafmtb.laid w d)) := by
 exact onW_eq st w k (fun w d => Vafmtb.nat (Vafmtb.rowsOf (Vafmtb.laid w d)).length :: (Vafmtb.rowsOf (Vafmtb.laid w d)).flatMap fun r => Vafmtb.nats [r.length, r.ind, r.flats]) _ fun w d => rfl
theorem to_ints {A : Ad} {He Hd H : Hp} {a dx dl : Addr} {lv : V} {st : Vafmtb.State} {l : List Int} {Q : VK} (D : DeskS A He Hd H a dx dl lv st) (q : DeskTo A He a dx dl (st, l) Q) : NewInts H l Q := fun H' p n s h => q H' p ⟨Hd, lv, D.mono s⟩ (D.out.free n) h
theorem put_lay (st : Vafmtb.State) (x : List Int) : (Vafmtb.putting st x).1.laying = st.laying := by
 unfold Vafmtb.putting
 split
 ·rfl
 ·split
  ·rfl
  ·split <;> rfl
theorem DeskS.puts {A : Ad} {He Hd Hd' H H' : Hp} {a dx dl : Addr} {lv : V} {st st' : Vafmtb.State} (D : DeskS A He Hd H a dx dl lv st) (D' : DeskW A Hd' H' a dx dl (deskF dl lv) st'.docs) (e : st'.laying = st.laying) (k : But dl H H') (sd : Same Hd Hd') (od : ∀ b o, H b = some o → Hd' b = Hd b) : DeskS A He Hd' H' a dx dl lv st' := by
 obtain ⟨as, hl, _⟩ := D.dsk.lst
 obtain ⟨as', hl', _⟩ := D'.lst
 refine ⟨D', ?_, fun b o h => k _ _ (D.out _ _ h) (ne_of_none h D.o2), D.o1, D.o2, fun b o h => ?_⟩
 ·rw [e]
  exact D.lay.put k hl hl' sd od D'.base D.dsk.n2 D.o2 (ne_of D.dsk.at_ hl (by intro z; cases z)) D.out
 ·rw [od _ _ (D.out _ _ h)]
  exact D.o3 _ _ h
theorem cut_two {x : List Int} {z y : Int} : cutV (intsV (z :: y :: x)) (some 2) none = intsV x := by
 unfold cutV
 have e : HT.sIx (intsV (z :: y :: x)).length 0 (some 2) = 2 := by
  have := HT.sIx_nat (intsV (z :: y :: x)).length 0 2
  rw [show ((2 : Nat) : Int) = 2 from rfl] at this
  rw [this, intsV_length]
  simp
 rw [e, HT.sIx_none, intsV_length]
 show (intsV x).take _ = _
 rw [List.take_of_length_le (by rw [intsV_length]; simp)]
def sp_Desk___init__ (A : Ad) : Sp := fun vs H Q _ => ∃ (a dx : Addr), vs = [.ref a] ∧ H a = some (.ins A.C_Desk dx []) ∧ ∀ dl, H dl = none → Q .non (upd (upd H dl (.lst [])) a (.ins A.C_Desk dx (deskF dl .non)))
def sp_Desk_answer (A : Ad) : Sp := fun vs H Q _ => ∃ (He Hd : Hp) (a dx dl r : Addr) (lv : V) (st : Vafmtb.State) (c : List (List Int)), vs = [.ref a, .ref r] ∧ DeskS A He Hd H a dx dl lv st ∧ H r = some (.lst (intsV (PyFlat.put1 c))) ∧ CallIs c ∧ VafmtbNeutral.asked1 c = true ∧ DeskTo A He a dx dl (VafmtbNeutral.step st c) Q
section
variable {P : Program} {w : World} {K : PySem.W.Frag} {mg : Str → Option Value} {base : Heap} {A : Ad}
theorem ok_Desk___init__ (T : Tx A K mg) : FnOk P w K mg base CX0 1 A.f_Desk___init__ A.fd_Desk___init__ ["self"] (sp_Desk___init__ A) := by
 have nd := sc_Desk___init__.nd
 refine T.F_Desk___init__.ok sc_Desk___init__ (fun vs H Q E h => ?_) (fun cdv Ar outer s H vs Q E hr h => ?_)
 ·obtain ⟨a, dx, rfl, _⟩ := h
  rfl
 ·obtain ⟨a, dx, rfl, ha, q⟩ := h
  refine ⟨_, (pss_cons (ps_fld (pv 0) (pe_lst pa_nil) rfl) (pss_one (ps_fld (pv 0) pe_non rfl))), ?_⟩
  refine ⟨Nat.zero_le _, fun dl ndl => ?_⟩
  refine ⟨_, rfl, a, _, dx, _, rfl, same_upd ndl _ _ ha, T.cl_Desk, T.n_Desk_documents, (by show 0 < 1000; decide), ?_⟩
  refine ⟨_, rfl, a, _, dx, _, rfl, upd_same, T.cl_Desk, T.n_Desk_laying, (by show 1 < 1000; decide), ?_⟩
  rw [upd_upd]
  exact q dl ndl
theorem ok_Desk_answer (T : Tx A K mg) : FnOk P w K mg base CX0 12 A.f_Desk_answer A.fd_Desk_answer ["self", "call"] (sp_Desk_answer A) := by
 have nd := sc_Desk_answer.nd
 refine T.F_Desk_answer.ok sc_Desk_answer (fun vs H Q E h => ?_) (fun cdv Ar outer s H vs Q E hr h => ?_)
 ·obtain ⟨He, Hd, a, dx, dl, r, lv, st, c, rfl, _⟩ := h
  rfl
 ·obtain ⟨He, Hd, a, dx, dl, r, lv, st, c, rfl, D, hr', hC, hask, q⟩ := h
  refine ⟨_, (pss_cons (ps_if (pt_cmpR op_eq (pe_ix ix_list (pv 1) pe_int (fun _ _ => rfl)) (pe_gint rfl T.c_PUT) (nomark _)) (pss_one (ps_ret (pe_meth (pv 0) T.cl_Desk T.m_Desk_answer_put (ok_Desk_answer_put T) (hr.mono (by decide)) T.b_Desk_answer_put .nil pass0 (pa_cons (pe_slice sl_list (pv 1) (po_some pe_int) po_none) pa_nil)))) pss_nil) (pss_cons (ps_if (pt_cmpR op_eq (pe_ix ix_list (pv 1) pe_int (fun _ _ => rfl)) (pe_gint rfl T.c_DROP) (nomark _)) (pss_one (ps_ret (pe_meth0 (pv 0) T.cl_Desk T.m_Desk_answer_drop (ok_Desk_answer_drop T) (hr.mono (by decide)) T.b_Desk_answer_drop .nil pass0))) pss_nil) (pss_cons (ps_if (pt_cmpR op_eq (pe_ix ix_list (pv 1) pe_int (fun _ _ => rfl)) (pe_gint rfl T.c_TOLD) (nomark _)) (pss_one (ps_ret (pe_meth (pv 0) T.cl_Desk T.m_Desk_answer_told (ok_Desk_answer_told T) (hr.mono (by decide)) T.b_Desk_answer_told .nil pass0 (pa_cons (pe_ix ix_list (pv 1) pe_int (fun _ _ => rfl)) pa_nil)))) pss_nil) (pss_cons (ps_if (pt_cmpR op_eq (pe_ix ix_list (pv 1) pe_int (fun _ _ => rfl)) (pe_gint rfl T.c_SIZE) (nomark _)) (pss_one (ps_ret (pe_meth (pv 0) T.cl_Desk T.m_Desk_answer_size (ok_Desk_answer_size T) (hr.mono (by decide)) T.b_Desk_answer_size .nil pass0 (pa_cons (pe_ix ix_list (pv 1) pe_int (fun _ _ => rfl)) pa_nil)))) pss_nil) (pss_cons (ps_if (pt_cmpR op_eq (pe_ix ix_list (pv 1) pe_int (fun _ _ => rfl)) (pe_gint rfl T.c_FLAT) (nomark _)) (pss_one (ps_ret (pe_meth (pv 0) T.cl_Desk T.m_Desk_answer_flat (ok_Desk_answer_flat T) (hr.mono (by decide)) T.b_Desk_answer_flat .nil pass0 (pa_cons (pe_ix ix_list (pv 1) pe_int (fun _ _ => rfl)) pa_nil)))) pss_nil) (pss_cons (ps_if (pt_cmpR op_eq (pe_ix ix_list (pv 1) pe_int (fun _ _ => rfl)) (pe_gint rfl T.c_LAY) (nomark _)) (pss_one (ps_ret (pe_meth (pv 0) T.cl_Desk T.m_Desk_answer_lay (ok_Desk_answer_lay T) (hr.mono (by decide)) T.b_Desk_answer_lay .nil pass0 (pa_cons (pe_ix ix_list (pv 1) pe_int (fun _ _ => rfl)) (pa_cons (pe_ix ix_list (pv 1) pe_int (fun _ _ => rfl)) pa_nil))))) pss_nil) (pss_cons (ps_if (pt_cmpR op_eq (pe_ix ix_list (pv 1) pe_int (fun _ _ => rfl)) (pe_gint rfl T.c_GROUPS) (nomark _)) (pss_one (ps_ret (pe_meth (pv 0) T.cl_Desk T.m_Desk_answer_groups (ok_Desk_answer_groups T) (hr.mono (by decide)) T.b_Desk_answer_groups .nil pass0 (pa_cons (pe_ix ix_list (pv 1) pe_int (fun _ _ => rfl)) (pa_cons (pe_ix ix_list (pv 1) pe_int (fun _ _ => rfl)) pa_nil))))) pss_nil) (pss_cons (ps_if (pt_cmpR op_eq (pe_ix ix_list (pv 1) pe_int (fun _ _ => rfl)) (pe_gint rfl T.c_LINES) (nomark _)) (pss_one (ps_ret (pe_meth (pv 0) T.cl_Desk T.m_Desk_answer_lines (ok_Desk_answer_lines T) (hr.mono (by decide)) T.b_Desk_answer_lines .nil pass0 (pa_cons (pe_ix ix_list (pv 1) pe_int (fun _ _ => rfl)) (pa_cons (pe_ix ix_list (pv 1) pe_int (fun _ _ => rfl)) pa_nil))))) pss_nil) (pss_cons (ps_if (pt_cmpR op_eq (pe_ix ix_list (pv 1) pe_int (fun _ _ => rfl)) (pe_gint rfl T.c_LEAST) (nomark _)) (pss_one (ps_ret (pe_meth (pv 0) T.cl_Desk T.m_Desk_answer_least (ok_Desk_answer_least T) (hr.mono (by decide)) T.b_Desk_answer_least .nil pass0 (pa_cons (pe_ix ix_list (pv 1) pe_int (fun _ _ => rfl)) pa_nil)))) pss_nil) (pss_cons (ps_if (pt_cmpR op_eq (pe_ix ix_list (pv 1) pe_int (fun _ _ => rfl)) (pe_gint rfl T.c_BEGIN) (nomark _)) (pss_one (ps_ret (pe_meth (pv 0) T.cl_Desk T.m_Desk_answer_begin (ok_Desk_answer_begin T) (hr.mono (by decide)) T.b_Desk_answer_begin .nil pass0 (pa_cons (pe_ix ix_list (pv 1) pe_int (fun _ _ => rfl)) (pa_cons (pe_ix ix_list (pv 1) pe_int (fun _ _ => rfl)) pa_nil))))) pss_nil) (pss_cons (ps_if (pt_cmpR op_eq (pe_ix ix_list (pv 1) pe_int (fun _ _ => rfl)) (pe_gint rfl T.c_STEPS) (nomark _)) (pss_one (ps_ret (pe_meth (pv 0) T.cl_Desk T.m_Desk_answer_steps (ok_Desk_answer_steps T) (hr.mono (by decide)) T.b_Desk_answer_steps .nil pass0 (pa_cons (pe_ix ix_list (pv 1) pe_int (fun _ _ => rfl)) pa_nil)))) pss_nil) (pss_cons (ps_if (pt_cmpR op_eq (pe_ix ix_list (pv 1) pe_int (fun _ _ => rfl)) (pe_gint rfl T.c_LOOK) (nomark _)) (pss_one (ps_ret (pe_meth0 (pv 0) T.cl_Desk T.m_Desk_answer_look (ok_Desk_answer_look T) (hr.mono (by decide)) T.b_Desk_answer_look .nil pass0))) pss_nil) (pss_cons (ps_if (pt_cmpR op_eq (pe_ix ix_list (pv 1) pe_int (fun _ _ => rfl)) (pe_gint rfl T.c_WRITTEN) (nomark _)) (pss_one (ps_ret (pe_meth0 (pv 0) T.cl_Desk T.m_Desk_answer_written (ok_Desk_answer_written T) (hr.mono (by decide)) T.b_Desk_answer_written .nil pass0))) pss_nil) (pss_one (ps_ret (pe_meth (pv 0) T.cl_Desk T.m_Desk_answer_back (ok_Desk_answer_back T) (hr.mono (by decide)) T.b_Desk_answer_back .nil pass0 (pa_cons (pe_ix ix_list (pv 1) pe_int (fun _ _ => rfl)) pa_nil))))))))))))))))), ?_⟩
  cases hC with
  | put x =>
   have hr : H r = some (.lst (intsV (0 :: (x.length : Int) :: x))) := by rw [hr']; simp [PyFlat.put1, PyFlat.putRows, PyFlat.putRow]
   refine ⟨_, rfl, r, _, _, _, rfl, rfl, SqL.of hr, atI_nat (j := 0) rfl, rfl, _, rfl, ite_eqI (fun _ => ?_) (fun h => absurd rfl h)⟩
   have hx : x.length ≤ 3000 := by
    have : (x.all VafmtbNeutral.whole60 && decide (x.length ≤ 3000)) = true := hask
    rw [Bool.and_eq_true] at this
    exact of_decide_eq_true this.2
   refine ⟨_, rfl, a, dx, _, rfl, D.dsk.at_, rfl, _, rfl, _, rfl, r, _, rfl, SqL.of hr, fun r2 n2 => ?_⟩
   rw [cut_two]
   have s2 := same_upd (o := .lst (intsV x)) n2
   have h2 : (upd H r2 (.lst (intsV x))) r2 = some (.lst (intsV x)) := upd_same
   have D2 := D.mono s2
   generalize upd H r2 (.lst (intsV x)) = H2 at s2 h2 D2 ⊢
   exact ⟨Hd, a, dx, dl, r2, _, _, x, st, rfl, D2.dsk, h2, hx, rfl, fun Hd' H' p D' k sd od np hp => q H' p ⟨Hd', lv, D2.puts D' (put_lay st x) k sd od⟩ (D2.out.free np) hp⟩
  | drop =>
   have hr : H r = some (.lst (intsV [1])) := hr'
   refine ⟨_, rfl, r, _, _, _, rfl, rfl, SqL.of hr, atI_nat (j := 0) rfl, rfl, _, rfl, ite_eqI (fun h => absurd h (by decide)) (fun _ => ?_)⟩
   refine ⟨_, rfl, r, _, _, _, rfl, rfl, SqL.of hr, atI_nat (j := 0) rfl, rfl, _, rfl, ite_eqI (fun _ => ?_) (fun h => absurd rfl h)⟩
   refine ⟨_, rfl, a, dx, _, rfl, D.dsk.at_, rfl, Hd, a, dx, dl, _, _, rfl, D.dsk, fun H' p D' k np hp => ?_⟩
   have q' : DeskTo A He a dx dl (if st.docs.isEmpty then (st, [-9]) else ({ st with docs := st.docs.dropLast }, [Vafmtb.nat (st.docs.length - 1)])) Q := q
   cases hE : st.docs.isEmpty with
   | true =>
    rw [hE] at q' D' hp
    exact q' H' p ⟨Hd, lv, D.puts (st' := st) D' rfl k (.refl _) (fun _ _ _ => rfl)⟩ (D.out.free np) hp
   | false =>
    rw [hE] at q' D' hp
    exact q' H' p ⟨Hd, lv, D.puts (st' := { st with docs := st.docs.dropLast }) D' rfl k (.refl _) (fun _ _ _ => rfl)⟩ (D.out.free np) hp
  | told k =>
   have hr : H r = some (.lst (intsV [2, k])) := hr'
   refine ⟨_, rfl, r, _, _, _, rfl, rfl, SqL.of hr, atI_nat (j := 0) rfl, rfl, _, rfl, ite_eqI (fun h => absurd h (by decide)) (fun _ => ?_)⟩
   refine ⟨_, rfl, r, _, _, _, rfl, rfl, SqL.of hr, atI_nat (j := 0) rfl, rfl, _, rfl, ite_eqI (fun h => absurd h (by decide)) (fun _ => ?_)⟩
   refine ⟨_, rfl, r, _, _, _, rfl, rfl, SqL.of hr, atI_nat (j := 0) rfl, rfl, _, rfl, ite_eqI (fun _ => ?_) (fun h => absurd rfl h)⟩
   have q' : DeskTo A He a dx dl (st, _) Q := (Prod.ext (show (VafmtbNeutral.step st [[2, k]]).1 = st from rfl) (e_told st k) : VafmtbNeutral.step st [[2, k]] = (st, _)) ▸ q
   exact ⟨_, rfl, a, dx, _, rfl, D.dsk.at_, rfl, _, rfl, r, _, _, _, rfl, rfl, SqL.of hr, atI_nat (j := 1) rfl, a, dx, dl, _, _, k, rfl, D.dsk.r, to_ints D q'⟩
  | size k =>
   have hr : H r = some (.lst (intsV [3, k])) := hr'
   refine ⟨_, rfl, r, _, _, _, rfl, rfl, SqL.of hr, atI_nat (j := 0) rfl, rfl, _, rfl, ite_eqI (fun h => absurd h (by decide)) (fun _ => ?_)⟩
   refine ⟨_, rfl, r, _, _, _, rfl, rfl, SqL.of hr, atI_nat (j := 0) rfl, rfl, _, rfl, ite_eqI (fun h => absurd h (by decide)) (fun _ => ?_)⟩
   refine ⟨_, rfl, r, _, _, _, rfl, rfl, SqL.of hr, atI_nat (j := 0) rfl, rfl, _, rfl, ite_eqI (fun h => absurd h (by decide)) (fun _ => ?_)⟩
   refine ⟨_, rfl, r, _, _, _, rfl, rfl, SqL.of hr, atI_nat (j := 0) rfl, rfl, _, rfl, ite_eqI (fun _ => ?_) (fun h => absurd rfl h)⟩
   have q' : DeskTo A He a dx dl (st, _) Q := (Prod.ext (show (VafmtbNeutral.step st [[3, k]]).1 = st from rfl) (e_size st k) : VafmtbNeutral.step st [[3, k]] = (st, _)) ▸ q
   exact ⟨_, rfl, a, dx, _, rfl, D.dsk.at_, rfl, _, rfl, r, _, _, _, rfl, rfl, SqL.of hr, atI_nat (j := 1) rfl, a, dx, dl, _, _, k, rfl, D.dsk.r, to_ints D q'⟩
  | flat k =>
   have hr : H r = some (.lst (intsV [4, k])) := hr'
   refine ⟨_, rfl, r, _, _, _, rfl, rfl, SqL.of hr, atI_nat (j := 0) rfl, rfl, _, rfl, ite_eqI (fun h => absurd h (by decide)) (fun _ => ?_)⟩
   refine ⟨_, rfl, r, _, _, _, rfl, rfl, SqL.of hr, atI_nat (j := 0) rfl, rfl, _, rfl, ite_eqI (fun h => absurd h (by decide)) (fun _ => ?_)⟩
   refine ⟨_, rfl, r, _, _, _, rfl, rfl, SqL.of hr, atI_nat (j := 0) rfl, rfl, _, rfl, ite_eqI (fun h => absurd h (by decide)) (fun _ => ?_)⟩
   refine ⟨_, rfl, r, _, _, _, rfl, rfl, SqL.of hr, atI_nat (j := 0) rfl, rfl, _, rfl, ite_eqI (fun h => absurd h (by decide)) (fun _ => ?_)⟩
   refine ⟨_, rfl, r, _, _, _, rfl, rfl, SqL.of hr, atI_nat (j := 0) rfl, rfl, _, rfl, ite_eqI (fun _ => ?_) (fun h => absurd rfl h)⟩
   have q' : DeskTo A He a dx dl (st, _) Q := (Prod.ext (show (VafmtbNeutral.step st [[4, k]]).1 = st from rfl) (e_flat st k) : VafmtbNeutral.step st [[4, k]] = (st, _)) ▸ q
   exact ⟨_, rfl, a, dx, _, rfl, D.dsk.at_, rfl, _, rfl, r, _, _, _, rfl, rfl, SqL.of hr, atI_nat (j := 1) rfl, a, dx, dl, _, _, k, rfl, D.dsk.r, to_ints D q'⟩
  | lay w k =>
   have hr : H r = some (.lst (intsV [5, w, k])) := hr'
   refine ⟨_, rfl, r, _, _, _, rfl, rfl, SqL.of hr, atI_nat (j := 0) rfl, rfl, _, rfl, ite_eqI (fun h => absurd h (by decide)) (fun _ => ?_)⟩
   refine ⟨_, rfl, r, _, _, _, rfl, rfl, SqL.of hr, atI_nat (j := 0) rfl, rfl, _, rfl, ite_eqI (fun h => absurd h (by decide)) (fun _ => ?_)⟩
   refine ⟨_, rfl, r, _, _, _, rfl, rfl, SqL.of hr, atI_nat (j := 0) rfl, rfl, _, rfl, ite_eqI (fun h => absurd h (by decide)) (fun _ => ?_)⟩
   refine ⟨_, rfl, r, _, _, _, rfl, rfl, SqL.of hr, atI_nat (j := 0) rfl, rfl, _, rfl, ite_eqI (fun h => absurd h (by decide)) (fun _ => ?_)⟩
   refine ⟨_, rfl, r, _, _, _, rfl, rfl, SqL.of hr, atI_nat (j := 0) rfl, rfl, _, rfl, ite_eqI (fun h => absurd h (by decide)) (fun _ => ?_)⟩
   refine ⟨_, rfl, r, _, _, _, rfl, rfl, SqL.of hr, atI_nat (j := 0) rfl, rfl, _, rfl, ite_eqI (fun _ => ?_) (fun h => absurd rfl h)⟩
   have q' : DeskTo A He a dx dl (st, _) Q := (Prod.ext (show (VafmtbNeutral.step st [[5, w, k]]).1 = st from rfl) (e_lay st w k) : VafmtbNeutral.step st [[5, w, k]] = (st, _)) ▸ q
   exact ⟨_, rfl, a, dx, _, rfl, D.dsk.at_, rfl, _, rfl, r, _, _, _, rfl, rfl, SqL.of hr, atI_nat (j := 1) rfl, _, rfl, r, _, _, _, rfl, rfl, SqL.of hr, atI_nat (j := 2) rfl, a, dx, dl, _, _, w, k, rfl, D.dsk.r, to_ints D q'⟩
  | groups w k =>
   have hr : H r = some (.lst (intsV [6, w, k])) := hr'
   refine ⟨_, rfl, r, _, _, _, rfl, rfl, SqL.of hr, atI_nat (j := 0) rfl, rfl, _, rfl, ite_eqI (fun h => absurd h (by decide)) (fun _ => ?_)⟩
   refine ⟨_, rfl, r, _, _, _, rfl, rfl, SqL.of hr, atI_nat (j := 0) rfl, rfl, _, rfl, ite_eqI (fun h => absurd h (by decide)) (fun _ => ?_)⟩
   refine ⟨_, rfl, r, _, _, _, rfl, rfl, SqL.of hr, atI_nat (j := 0) rfl, rfl, _, rfl, ite_eqI (fun h => absurd h (by decide)) (fun _ => ?_)⟩
   refine ⟨_, rfl, r, _, _, _, rfl, rfl, SqL.of hr, atI_nat (j := 0) rfl, rfl, _, rfl, ite_eqI (fun h => absurd h (by decide)) (fun _ => ?_)⟩
   refine ⟨_, rfl, r, _, _, _, rfl, rfl, SqL.of hr, atI_nat (j := 0) rfl, rfl, _, rfl, ite_eqI (fun h => absurd h (by decide)) (fun _ => ?_)⟩
   refine ⟨_, rfl, r, _, _, _, rfl, rfl, SqL.of hr, atI_nat (j := 0) rfl, rfl, _, rfl, ite_eqI (fun h => absurd h (by decide)) (fun _ => ?_)⟩
   refine ⟨_, rfl, r, _, _, _, rfl, rfl, SqL.of hr, atI_nat (j := 0) rfl, rfl, _, rfl, ite_eqI (fun _ => ?_) (fun h => absurd rfl h)⟩
   have q' : DeskTo A He a dx dl (st, _) Q := (Prod.ext (show (VafmtbNeutral.step st [[6, w, k]]).1 = st from rfl) (e_groups st w k) : VafmtbNeutral.step st [[6, w, k]] = (st, _)) ▸ q
   exact ⟨_, rfl, a, dx, _, rfl, D.dsk.at_, rfl, _, rfl, r, _, _, _, rfl, rfl, SqL.of hr, atI_nat (j := 1) rfl, _, rfl, r, _, _, _, rfl, rfl, SqL.of hr, atI_nat (j := 2) rfl, a, dx, dl, _, _, w, k, rfl, D.dsk.r, to_ints D q'⟩
  | lines w k =>
   have hr : H r = some (.lst (intsV [7, w, k])) := hr'
   refine ⟨_, rfl, r, _, _, _, rfl, rfl, SqL.of hr, atI_nat (j := 0) rfl, rfl, _, rfl, ite_eqI (fun h => absurd h (by decide)) (fun _ => ?_)⟩
   refine ⟨_, rfl, r, _, _, _, rfl, rfl, SqL.of hr, atI_nat (j := 0) rfl, rfl, _, rfl, ite_eqI (fun h => absurd h (by decide)) (fun _ => ?_)⟩
   refine ⟨_, rfl, r, _, _, _, rfl, rfl, SqL.of hr, atI_nat (j := 0) rfl, rfl, _, rfl, ite_eqI (fun h => absurd h (by decide)) (fun _ => ?_)⟩
   refine ⟨_, rfl, r, _, _, _, rfl, rfl, SqL.of hr, atI_nat (j := 0) rfl, rfl, _, rfl, ite_eqI (fun h => absurd h (by decide)) (fun _ => ?_)⟩
   refine ⟨_, rfl, r, _, _, _, rfl, rfl, SqL.of hr, atI_nat (j := 0) rfl, rfl, _, rfl, ite_eqI (fun h => absurd h (by decide)) (fun _ => ?_)⟩
   refine ⟨_, rfl, r, _, _, _, rfl, rfl, SqL.of hr, atI_nat (j := 0) rfl, rfl, _, rfl, ite_eqI (fun h => absurd h (by decide)) (fun _ => ?_)⟩
   refine ⟨_, rfl, r, _, _, _, rfl, rfl, SqL.of hr, atI_nat (j := 0) rfl, rfl, _, rfl, ite_eqI (fun h => absurd h (by decide)) (fun _ => ?_)⟩
   refine ⟨_, rfl, r, _, _, _, rfl, rfl, SqL.of hr, atI_nat (j := 0) rfl, rfl, _, rfl, ite_eqI (fun _ => ?_) (fun h => absurd rfl h)⟩
   have q' : DeskTo A He a dx dl (st, _) Q := (Prod.ext (show (VafmtbNeutral.step st [[7, w, k]]).1 = st from rfl) (e_lines st w k) : VafmtbNeutral.step st [[7, w, k]] = (st, _)) ▸ q
   exact ⟨_, rfl, a, dx, _, rfl, D.dsk.at_, rfl, _, rfl, r, _, _, _, rfl, rfl, SqL.of hr, atI_nat (j := 1) rfl, _, rfl, r, _, _, _, rfl, rfl, SqL.of hr, atI_nat (j := 2) rfl, a, dx, dl, _, _, w, k, rfl, D.dsk.r, to_ints D q'⟩
  | least k =>
   have hr : H r = some (.lst (intsV [8, k])) := hr'
   refine ⟨_, rfl, r, _, _, _, rfl, rfl, SqL.of hr, atI_nat (j := 0) rfl, rfl, _, rfl, ite_eqI (fun h => absurd h (by decide)) (fun _ => ?_)⟩
   refine ⟨_, rfl, r, _, _, _, rfl, rfl, SqL.of hr, atI_nat (j := 0) rfl, rfl, _, rfl, ite_eqI (fun h => absurd h (by decide)) (fun _ => ?_)⟩
   refine ⟨_, rfl, r, _, _, _, rfl, rfl, SqL.of hr, atI_nat (j := 0) rfl, rfl, _, rfl, ite_eqI (fun h => absurd h (by decide)) (fun _ => ?_)⟩
   refine ⟨_, rfl, r, _, _, _, rfl, rfl, SqL.of hr, atI_nat (j := 0) rfl, rfl, _, rfl, ite_eqI (fun h => absurd h (by decide)) (fun _ => ?_)⟩
   refine ⟨_, rfl, r, _, _, _, rfl, rfl, SqL.of hr, atI_nat (j := 0) rfl, rfl, _, rfl, ite_eqI (fun h => absurd h (by decide)) (fun _ => ?_)⟩
   refine ⟨_, rfl, r, _, _, _, rfl, rfl, SqL.of hr, atI_nat (j := 0) rfl, rfl, _, rfl, ite_eqI (fun h => absurd h (by decide)) (fun _ => ?_)⟩
   refine ⟨_, rfl, r, _, _, _, rfl, rfl, SqL.of hr, atI_nat (j := 0) rfl, rfl, _, rfl, ite_eqI (fun h => absurd h (by decide)) (fun _ => ?_)⟩
   refine ⟨_, rfl, r, _, _, _, rfl, rfl, SqL.of hr, atI_nat (j := 0) rfl, rfl, _, rfl, ite_eqI (fun h => absurd h (by decide)) (fun _ => ?_)⟩
   refine ⟨_, rfl, r, _, _, _, rfl, rfl, SqL.of hr, atI_nat (j := 0) rfl, rfl, _, rfl, ite_eqI (fun _ => ?_) (fun h => absurd rfl h)⟩
   have q' : DeskTo A He a dx dl (st, _) Q := (Prod.ext (show (VafmtbNeutral.step st [[8, k]]).1 = st from rfl) (e_least st k) : VafmtbNeutral.step st [[8, k]] = (st, _)) ▸ q
   exact ⟨_, rfl, a, dx, _, rfl, D.dsk.at_, rfl, _, rfl, r, _, _, _, rfl, rfl, SqL.of hr, atI_nat (j := 1) rfl, a, dx, dl, _, _, k, rfl, D.dsk.r, to_ints D q'⟩
  | begin w k =>
   have hr : H r = some (.lst (intsV [9, w, k])) := hr'
   refine ⟨_, rfl, r, _, _, _, rfl, rfl, SqL.of hr, atI_nat (j := 0) rfl, rfl, _, rfl, ite_eqI (fun h => absurd h (by decide)) (fun _ => ?_)⟩
   refine ⟨_, rfl, r, _, _, _, rfl, rfl, SqL.of hr, atI_nat (j := 0) rfl, rfl, _, rfl, ite_eqI (fun h => absurd h (by decide)) (fun _ => ?_)⟩
   refine ⟨_, rfl, r, _, _, _, rfl, rfl, SqL.of hr, atI_nat (j := 0) rfl, rfl, _, rfl, ite_eqI (fun h => absurd h (by decide)) (fun _ => ?_)⟩
   refine ⟨_, rfl, r, _, _, _, rfl, rfl, SqL.of hr, atI_nat (j := 0) rfl, rfl, _, rfl, ite_eqI (fun h => absurd h (by decide)) (fun _ => ?_)⟩
   refine ⟨_, rfl, r, _, _, _, rfl, rfl, SqL.of hr, atI_nat (j := 0) rfl, rfl, _, rfl, ite_eqI (fun h => absurd h (by decide)) (fun _ => ?_)⟩
   refine ⟨_, rfl, r, _, _, _, rfl, rfl, SqL.of hr, atI_nat (j := 0) rfl, rfl, _, rfl, ite_eqI (fun h => absurd h (by decide)) (fun _ => ?_)⟩
   refine ⟨_, rfl, r, _, _, _, rfl, rfl, SqL.of hr, atI_nat (j := 0) rfl, rfl, _, rfl, ite_eqI (fun h => absurd h (by decide)) (fun _ => ?_)⟩
   refine ⟨_, rfl, r, _, _, _, rfl, rfl, SqL.of hr, atI_nat (j := 0) rfl, rfl, _, rfl, ite_eqI (fun h => absurd h (by decide)) (fun _ => ?_)⟩
   refine ⟨_, rfl, r, _, _, _, rfl, rfl, SqL.of hr, atI_nat (j := 0) rfl, rfl, _, rfl, ite_eqI (fun h => absurd h (by decide)) (fun _ => ?_)⟩
   refine ⟨_, rfl, r, _, _, _, rfl, rfl, SqL.of hr, atI_nat (j := 0) rfl, rfl, _, rfl, ite_eqI (fun _ => ?_) (fun h => absurd rfl h)⟩
   exact ⟨_, rfl, a, dx, _, rfl, D.dsk.at_, rfl, _, rfl, r, _, _, _, rfl, rfl, SqL.of hr, atI_nat (j := 1) rfl, _, rfl, r, _, _, _, rfl, rfl, SqL.of hr, atI_nat (j := 2) rfl, He, Hd, a, dx, dl, lv, st, w, k, rfl, D, q⟩
  | steps n =>
   have hr : H r = some (.lst (intsV [10, n])) := hr'
   refine ⟨_, rfl, r, _, _, _, rfl, rfl, SqL.of hr, atI_nat (j := 0) rfl, rfl, _, rfl, ite_eqI (fun h => absurd h (by decide)) (fun _ => ?_)⟩
   refine ⟨_, rfl, r, _, _, _, rfl, rfl, SqL.of hr, atI_nat (j := 0) rfl, rfl, _, rfl, ite_eqI (fun h => absurd h (by decide)) (fun _ => ?_)⟩
   refine ⟨_, rfl, r, _, _, _, rfl, rfl, SqL.of hr, atI_nat (j := 0) rfl, rfl, _, rfl, ite_eqI (fun h => absurd h (by decide)) (fun _ => ?_)⟩
   refine ⟨_, rfl, r, _, _, _, rfl, rfl, SqL.of hr, atI_nat (j := 0) rfl, rfl, _, rfl, ite_eqI (fun h => absurd h (by decide)) (fun _ => ?_)⟩
   refine ⟨_, rfl, r, _, _, _, rfl, rfl, SqL.of hr, atI_nat (j := 0) rfl, rfl, _, rfl, ite_eqI (fun h => absurd h (by decide)) (fun _ => ?_)⟩
   refine ⟨_, rfl, r, _, _, _, rfl, rfl, SqL.of hr, atI_nat (j := 0) rfl, rfl, _, rfl, ite_eqI (fun h => absurd h (by decide)) (fun _ => ?_)⟩
   refine ⟨_, rfl, r, _, _, _, rfl, rfl, SqL.of hr, atI_nat (j := 0) rfl, rfl, _, rfl, ite_eqI (fun h => absurd h (by decide)) (fun _ => ?_)⟩
   refine ⟨_, rfl, r, _, _, _, rfl, rfl, SqL.of hr, atI_nat (j := 0) rfl, rfl, _, rfl, ite_eqI (fun h => absurd h (by decide)) (fun _ => ?_)⟩
   refine ⟨_, rfl, r, _, _, _, rfl, rfl, SqL.of hr, atI_nat (j := 0) rfl, rfl, _, rfl, ite_eqI (fun h => absurd h (by decide)) (fun _ => ?_)⟩
   refine ⟨_, rfl, r, _, _, _, rfl, rfl, SqL.of hr, atI_nat (j := 0) rfl, rfl, _, rfl, ite_eqI (fun h => absurd h (by decide)) (fun _ => ?_)⟩
   refine ⟨_, rfl, r, _, _, _, rfl, rfl, SqL.of hr, atI_nat (j := 0) rfl, rfl, _, rfl, ite_eqI (fun _ => ?_) (fun h => absurd rfl h)⟩
   exact ⟨_, rfl, a, dx, _, rfl, D.dsk.at_, rfl, _, rfl, r, _, _, _, rfl, rfl, SqL.of hr, atI_nat (j := 1) rfl, He, Hd, a, dx, dl, lv, st, n, rfl, D, q⟩
  | look =>
   have hr : H r = some (.lst (intsV [11])) := hr'
   refine ⟨_, rfl, r, _, _, _, rfl, rfl, SqL.of hr, atI_nat (j := 0) rfl, rfl, _, rfl, ite_eqI (fun h => absurd h (by decide)) (fun _ => ?_)⟩
   refine ⟨_, rfl, r, _, _, _, rfl, rfl, SqL.of hr, atI_nat (j := 0) rfl, rfl, _, rfl, ite_eqI (fun h => absurd h (by decide)) (fun _ => ?_)⟩
   refine ⟨_, rfl, r, _, _, _, rfl, rfl, SqL.of hr, atI_nat (j := 0) rfl, rfl, _, rfl, ite_eqI (fun h => absurd h (by decide)) (fun _ => ?_)⟩
   refine ⟨_, rfl, r, _, _, _, rfl, rfl, SqL.of hr, atI_nat (j := 0) rfl, rfl, _, rfl, ite_eqI (fun h => absurd h (by decide)) (fun _ => ?_)⟩
   refine ⟨_, rfl, r, _, _, _, rfl, rfl, SqL.of hr, atI_nat (j := 0) rfl, rfl, _, rfl, ite_eqI (fun h => absurd h (by decide)) (fun _ => ?_)⟩
   refine ⟨_, rfl, r, _, _, _, rfl, rfl, SqL.of hr, atI_nat (j := 0) rfl, rfl, _, rfl, ite_eqI (fun h => absurd h (by decide)) (fun _ => ?_)⟩
   refine ⟨_, rfl, r, _, _, _, rfl, rfl, SqL.of hr, atI_nat (j := 0) rfl, rfl, _, rfl, ite_eqI (fun h => absurd h (by decide)) (fun _ => ?_)⟩
   refine ⟨_, rfl, r, _, _, _, rfl, rfl, SqL.of hr, atI_nat (j := 0) rfl, rfl, _, rfl, ite_eqI (fun h => absurd h (by decide)) (fun _ => ?_)⟩
   refine ⟨_, rfl, r, _, _, _, rfl, rfl, SqL.of hr, atI_nat (j := 0) rfl, rfl, _, rfl, ite_eqI (fun h => absurd h (by decide)) (fun _ => ?_)⟩
   refine ⟨_, rfl, r, _, _, _, rfl, rfl, SqL.of hr, atI_nat (j := 0) rfl, rfl, _, rfl, ite_eqI (fun h => absurd h (by decide)) (fun _ => ?_)⟩
   refine ⟨_, rfl, r, _, _, _, rfl, rfl, SqL.of hr, atI_nat (j := 0) rfl, rfl, _, rfl, ite_eqI (fun h => absurd h (by decide)) (fun _ => ?_)⟩
   refine ⟨_, rfl, r, _, _, _, rfl, rfl, SqL.of hr, atI_nat (j := 0) rfl, rfl, _, rfl, ite_eqI (fun _ => ?_) (fun h => absurd rfl h)⟩
   exact ⟨_, rfl, a, dx, _, rfl, D.dsk.at_, rfl, He, Hd, a, dx, dl, lv, st, rfl, D, q⟩
  | written =>
   have hr : H r = some (.lst (intsV [12])) := hr'
   refine ⟨_, rfl, r, _, _, _, rfl, rfl, SqL.of hr, atI_nat (j := 0) rfl, rfl, _, rfl, ite_eqI (fun h => absurd h (by decide)) (fun _ => ?_)⟩
   refine ⟨_, rfl, r, _, _, _, rfl, rfl, SqL.of hr, atI_nat (j := 0) rfl, rfl, _, rfl, ite_eqI (fun h => absurd h (by decide)) (fun _ => ?_)⟩
   refine ⟨_, rfl, r, _, _, _, rfl, rfl, SqL.of hr, atI_nat (j := 0) rfl, rfl, _, rfl, ite_eqI (fun h => absurd h (by decide)) (fun _ => ?_)⟩
   refine ⟨_, rfl, r, _, _, _, rfl, rfl, SqL.of hr, atI_nat (j := 0) rfl, rfl, _, rfl, ite_eqI (fun h => absurd h (by decide)) (fun _ => ?_)⟩
   refine ⟨_, rfl, r, _, _, _, rfl, rfl, SqL.of hr, atI_nat (j := 0) rfl, rfl, _, rfl, ite_eqI (fun h => absurd h (by decide)) (fun _ => ?_)⟩
   refine ⟨_, rfl, r, _, _, _, rfl, rfl, SqL.of hr, atI_nat (j := 0) rfl, rfl, _, rfl, ite_eqI (fun h => absurd h (by decide)) (fun _ => ?_)⟩
   refine ⟨_, rfl, r, _, _, _, rfl, rfl, SqL.of hr, atI_nat (j := 0) rfl, rfl, _, rfl, ite_eqI (fun h => absurd h (by decide)) (fun _ => ?_)⟩
   refine ⟨_, rfl, r, _, _, _, rfl, rfl, SqL.of hr, atI_nat (j := 0) rfl, rfl, _, rfl, ite_eqI (fun h => absurd h (by decide)) (fun _ => ?_)⟩
   refine ⟨_, rfl, r, _, _, _, rfl, rfl, SqL.of hr, atI_nat (j := 0) rfl, rfl, _, rfl, ite_eqI (fun h => absurd h (by decide)) (fun _ => ?_)⟩
   refine ⟨_, rfl, r, _, _, _, rfl, rfl, SqL.of hr, atI_nat (j := 0) rfl, rfl, _, rfl, ite_eqI (fun h => absurd h (by decide)) (fun _ => ?_)⟩
   refine ⟨_, rfl, r, _, _, _, rfl, rfl, SqL.of hr, atI_nat (j := 0) rfl, rfl, _, rfl, ite_eqI (fun h => absurd h (by decide)) (fun _ => ?_)⟩
   refine ⟨_, rfl, r, _, _, _, rfl, rfl, SqL.of hr, atI_nat (j := 0) rfl, rfl, _, rfl, ite_eqI (fun h => absurd h (by decide)) (fun _ => ?_)⟩
   refine ⟨_, rfl, r, _, _, _, rfl, rfl, SqL.of hr, atI_nat (j := 0) rfl, rfl, _, rfl, ite_eqI (fun _ => ?_) (fun h => absurd rfl h)⟩
   exact ⟨_, rfl, a, dx, _, rfl, D.dsk.at_, rfl, He, Hd, a, dx, dl, lv, st, rfl, D, q⟩
  | back n =>
   have hr : H r = some (.lst (intsV [13, n])) := hr'
   refine ⟨_, rfl, r, _, _, _, rfl, rfl, SqL.of hr, atI_nat (j := 0) rfl, rfl, _, rfl, ite_eqI (fun h => absurd h (by decide)) (fun _ => ?_)⟩
   refine ⟨_, rfl, r, _, _, _, rfl, rfl, SqL.of hr, atI_nat (j := 0) rfl, rfl, _, rfl, ite_eqI (fun h => absurd h (by decide)) (fun _ => ?_)⟩
   refine ⟨_, rfl, r, _, _, _, rfl, rfl, SqL.of hr, atI_nat (j := 0) rfl, rfl, _, rfl, ite_eqI (fun h => absurd h (by decide)) (fun _ => ?_)⟩
   refine ⟨_, rfl, r, _, _, _, rfl, rfl, SqL.of hr, atI_nat (j := 0) rfl, rfl, _, rfl, ite_eqI (fun h => absurd h (by decide)) (fun _ => ?_)⟩
   refine ⟨_, rfl, r, _, _, _, rfl, rfl, SqL.of hr, atI_nat (j := 0) rfl, rfl, _, rfl, ite_eqI (fun h => absurd h (by decide)) (fun _ => ?_)⟩
   refine ⟨_, rfl, r, _, _, _, rfl, rfl, SqL.of hr, atI_nat (j := 0) rfl, rfl, _, rfl, ite_eqI (fun h => absurd h (by decide)) (fun _ => ?_)⟩
   refine ⟨_, rfl, r, _, _, _, rfl, rfl, SqL.of hr, atI_nat (j := 0) rfl, rfl, _, rfl, ite_eqI (fun h => absurd h (by decide)) (fun _ => ?_)⟩
   refine ⟨_, rfl, r, _, _, _, rfl, rfl, SqL.of hr, atI_nat (j := 0) rfl, rfl, _, rfl, ite_eqI (fun h => absurd h (by decide)) (fun _ => ?_)⟩
   refine ⟨_, rfl, r, _, _, _, rfl, rfl, SqL.of hr, atI_nat (j := 0) rfl, rfl, _, rfl, ite_eqI (fun h => absurd h (by decide)) (fun _ => ?_)⟩
   refine ⟨_, rfl, r, _, _, _, rfl, rfl, SqL.of hr, atI_nat (j := 0) rfl, rfl, _, rfl, ite_eqI (fun h => absurd h (by decide)) (fun _ => ?_)⟩
   refine ⟨_, rfl, r, _, _, _, rfl, rfl, SqL.of hr, atI_nat (j := 0) rfl, rfl, _, rfl, ite_eqI (fun h => absurd h (by decide)) (fun _ => ?_)⟩
   refine ⟨_, rfl, r, _, _, _, rfl, rfl, SqL.of hr, atI_nat (j := 0) rfl, rfl, _, rfl, ite_eqI (fun h => absurd h (by decide)) (fun _ => ?_)⟩
   refine ⟨_, rfl, r, _, _, _, rfl, rfl, SqL.of hr, atI_nat (j := 0) rfl, rfl, _, rfl, ite_eqI (fun h => absurd h (by decide)) (fun _ => ?_)⟩
   exact ⟨_, rfl, a, dx, _, rfl, D.dsk.at_, rfl, _, rfl, r, _, _, _, rfl, rfl, SqL.of hr, atI_nat (j := 1) rfl, He, Hd, a, dx, dl, lv, st, n, rfl, D, q⟩
end
end WL
set_option Elab.async false
set_option linter.all false
set_option maxRecDepth 100000
set_option maxHeartbeats 2000000
namespace WL
open PySem PySem.Spec PyProof.Rows L2
open PyFlat (put put1 told played)
def sp_call_length (K : PySem.W.Frag) : Sp := fun vs H Q _ => ∃ (t : Addr) (l : List Int) (p : Nat) (c : List (List Int)) (rest : List Int), vs = [.ref t, .int p] ∧ SqL K H t (intsV l) ∧ l.drop p = put1 c ++ rest ∧ CallIs c ∧ Q (.int ((put1 c).length : Nat)) H
def sp_answers (K : PySem.W.Frag) : Sp := fun vs H Q _ => ∃ (t : Addr) (cs : List (List (List Int))), vs = [.ref t] ∧ SqL K H t (intsV (put cs)) ∧ (∀ c ∈ cs, CallIs c) ∧ (∀ c ∈ cs, VafmtbNeutral.asked1 c = true) ∧ (told (played VafmtbNeutral.step VafmtbNeutral.start cs)).length ≤ 10000000 ∧
 ∀ H' p, H' p = some (.lst (intsV (told (played VafmtbNeutral.step VafmtbNeutral.start cs)))) → Q (.ref p) H'
theorem get_drop {l r : List Int} {p j : Nat} (h : l.drop p = r) : (intsV l)[p + j]? = (intsV r)[j]? := by
 unfold intsV
 rw [← h, List.getElem?_map, List.getElem?_map, List.getElem?_drop]
theorem played_append : ∀ (l r : List (List (List Int))) (s : Vafmtb.State), played VafmtbNeutral.step s (l ++ r) = played VafmtbNeutral.step s l ++ played VafmtbNeutral.step (stateOf s l) r
 | [], r, s => rfl
 | d :: l, r, s => by
  show (VafmtbNeutral.step s d).2 :: played VafmtbNeutral.step (VafmtbNeutral.step s d).1 (l ++ r) = _
  rw [played_append l r _]
  rfl
theorem told_take (cs : List (List (List Int))) (i : Nat) (s : Vafmtb.State) : (told (played VafmtbNeutral.step s (cs.take i))).length ≤ (told (played VafmtbNeutral.step s cs)).length := by
 have e : played VafmtbNeutral.step s cs = played VafmtbNeutral.step s (cs.take i) ++ played VafmtbNeutral.step (stateOf s (cs.take i)) (cs.drop i) := by
  rw [← played_append, List.take_append_drop]
 rw [e]
 unfold told
 rw [List.flatMap_append, List.length_append]
 exact Nat.le_add_right _ _
theorem cut_call {l a rest : List Int} {p : Nat} (h : l.drop p = a ++ rest) (hp : p ≤ l.length) : cutV (intsV l) (some (p : Int)) (some ((p : Int) + ((a.length : Nat) : Int))) = intsV a := by
 unfold cutV
 have hl := congrArg List.length h
 rw [List.length_drop, List.length_append] at hl
 have e2 : (p : Int) + ((a.length : Nat) : Int) = ((p + a.length : Nat) : Int) := by omega
 rw [e2, HT.sIx_nat, HT.sIx_nat, intsV_length, Nat.min_eq_left (by omega), Nat.min_eq_left (by omega), show p + a.length - p = a.length by omega]
 unfold intsV
 rw [← List.map_drop, h, List.map_append]
 have e3 : (a.map V.int).length = a.length := List.length_map ..
 conv => lhs; rw [← e3]
 exact List.take_left ..
section
variable {P : Program} {w : World} {K : PySem.W.Frag} {mg : Str → Option Value} {base : Heap} {A : Ad}
theorem ok_call_length (T : Tx A K mg) : FnOk P w K mg base CX0 1 A.f_call_length A.fd_call_length ["calls", "place"] (sp_call_length K) := by
 have nd := sc_call_length.nd
 refine T.F_call_length.ok sc_call_length (fun vs H Q E h => ?_) (fun cdv Ar outer s H vs Q E hr h => ?_)
 ·obtain ⟨t, l, p, c, rest, rfl, _⟩ := h
  rfl
 ·obtain ⟨t, l, p, c, rest, rfl, hS, he, hC, q⟩ := h
  obtain ⟨z, r, e1, h1⟩ := put1_len hC
  rw [e1] at he q
  have at0 : atI (intsV l) (p : Int) = some (.int z) := atI_nat (by
   have := get_drop (j := 0) he
   rw [Nat.add_zero] at this
   rw [this]
   rfl)
  refine ⟨_, (pss_cons (ps_if (pt_cmpR op_eq (pe_ix ix_list (pv 0) (pv 1) (fun _ _ => rfl)) (pe_gint rfl T.c_PUT) (nomark _)) (pss_one (ps_ret (pe_op op_add pe_int (pe_ix ix_list (pv 0) (pe_op op_add (pv 1) pe_int) (fun _ _ => rfl))))) pss_nil) (pss_one (ps_ret (pe_op op_add pe_int (pe_ix ix_tup (pe_glob (v := .ref A.g_GIVEN) rfl T.c_GIVEN rfl) (pe_ix ix_list (pv 0) (pv 1) (fun _ _ => rfl)) (fun _ _ => rfl)))))), ?_⟩
  refine ⟨_, rfl, _, rfl, t, _, _, _, rfl, rfl, hS, at0, rfl, _, rfl, ite_eqI (fun hz => ?_) (fun hz => ?_)⟩
  ·rcases h1 with ⟨_, x, hx, _⟩ | ⟨h2, _⟩
   ·subst hx
    have at1 : atI (intsV l) ((p : Int) + 1) = some (.int (x.length : Nat)) := at_of (j := p + 1) (by omega) (by
     rw [get_drop (j := 1) he]
     rfl)
    refine ⟨_, rfl, _, rfl, _, _, rfl, rfl, t, _, _, _, rfl, rfl, hS, at1, _, _, rfl, rfl, ?_⟩
    have e2 : (((z :: (x.length : Int) :: x).length : Nat) : Int) = 2 + (x.length : Int) := by
     rw [List.length_cons, List.length_cons]
     omega
    rw [e2] at q
    exact q
   ·omega
  ·rcases h1 with ⟨h0, _⟩ | ⟨h2, h3, h4⟩
   ·exact absurd h0 hz
   ·have atg : atI (intsV given) z = some (.int ((r.length : Nat) : Int)) := at_of (j := z.toNat) (by omega) (by
     unfold intsV
     rw [List.getElem?_map, h4]
     rfl)
    refine ⟨_, rfl, _, rfl, t, _, _, _, rfl, rfl, hS, at0, A.g_GIVEN, _, _, _, rfl, rfl, T.t_GIVEN H, atg, _, _, rfl, rfl, ?_⟩
    have e2 : (((z :: r).length : Nat) : Int) = 1 + (r.length : Int) := by
     rw [List.length_cons]
     omega
    rw [e2] at q
    exact q
theorem ok_answers (T : Tx A K mg) : FnOk P w K mg base CX0 13 A.f_answers A.fd_answers ["calls"] (sp_answers K) := by
 have nd := sc_answers.nd
 refine T.F_answers.ok sc_answers (fun vs H Q E h => ?_) (fun cdv Ar outer s H vs Q E hr h => ?_)
 ·obtain ⟨t, cs, rfl, _⟩ := h
  rfl
 ·obtain ⟨t, cs, rfl, hS, hC, hask, hlen, q⟩ := h
  refine ⟨_, (pss_cons (ps_set (i := 1) nd rfl (by first | exact Or.inl rfl | exact Or.inr rfl) (pe_make0 T.k_Desk (ok_Desk___init__ T) (hr.mono (by decide)) rfl T.mg_Desk T.b_Desk___init__ .nil pass0)) (pss_cons (ps_set (i := 2) nd rfl (by first | exact Or.inl rfl | exact Or.inr rfl) (pe_lst pa_nil)) (pss_cons (ps_set (i := 3) nd rfl (by first | exact Or.inl rfl | exact Or.inr rfl) pe_int) (pss_cons (ps_while PassesOwn.never (pt_cmpR op_lt (pv 3) (pe_callB call_lenR rfl T.b_len PySem.boot_len (pa_cons (pv 0) pa_nil)) (nomark _)) (pss_cons (ps_set (i := 4) nd rfl (by first | exact Or.inl rfl | exact Or.inr rfl) (pe_op op_add (pv 3) (pe_call (ok_call_length T) (hr.mono (by decide)) rfl T.mg_call_length T.kp_call_length T.b_call_length .nil pass0 (pa_cons (pv 0) (pa_cons (pv 3) pa_nil))))) (pss_cons (ps_set (i := 5) nd rfl (by first | exact Or.inl rfl | exact Or.inr rfl) (pe_meth (pv 1) T.cl_Desk T.m_Desk_answer (ok_Desk_answer T) (hr.mono (by decide)) T.b_Desk_answer .nil pass0 (pa_cons (pe_slice sl_list (pv 0) (po_some (pv 3)) (po_some (pv 4))) pa_nil))) (pss_cons (ps_expr (pe_bm PySem.F.plainAttrs_list PySem.F.slot_list_append PySem.F.type_list_append mt_append (pv 2) (pa_cons (pe_callB call_lenR rfl T.b_len PySem.boot_len (pa_cons (pv 5) pa_nil)) pa_nil))) (pss_cons (ps_expr (pe_bm PySem.F.plainAttrs_list PySem.F.slot_list_extend PySem.F.type_list_extend mt_extend (pv 2) (pa_cons (pv 5) pa_nil))) (pss_one (ps_set (i := 3) nd rfl (by first | exact Or.inl rfl | exact Or.inr rfl) (pv 4)))))))) (pss_one (ps_ret (pv 2))))))), ?_⟩
  intro a dx na nda nea
  refine ⟨a, dx, rfl, upd_same, fun dl ndl => ⟨rfl, ?_⟩⟩
  have da : dl ≠ a := fun z => by
   rw [z, upd_same] at ndl
   cases ndl
  have dd : dl ≠ dx := fun z => by
   rw [z, upd_ne nea, upd_same] at ndl
   cases ndl
  rw [upd_ne da, upd_ne dd] at ndl
  have u1 : Same H (upd (upd (upd (upd H dx (.own a)) a (.ins A.C_Desk dx [])) dl (.lst [])) a (.ins A.C_Desk dx (deskF dl .non))) := fun z o e => by
   rw [upd_ne (ne_of_none e na), upd_ne (ne_of_none e ndl), upd_ne (ne_of_none e na), upd_ne (ne_of_none e nda)]
   exact e
  have a1 : (upd (upd (upd (upd H dx (.own a)) a (.ins A.C_Desk dx [])) dl (.lst [])) a (.ins A.C_Desk dx (deskF dl .non))) a = some (.ins A.C_Desk dx (deskF dl .non)) := upd_same
  have l1 : (upd (upd (upd (upd H dx (.own a)) a (.ins A.C_Desk dx [])) dl (.lst [])) a (.ins A.C_Desk dx (deskF dl .non))) dl = some (.lst []) := by rw [upd_ne da, upd_same]
  generalize upd (upd (upd (upd H dx (.own a)) a (.ins A.C_Desk dx [])) dl (.lst [])) a (.ins A.C_Desk dx (deskF dl .non)) = H1 at u1 a1 l1 ⊢
  refine ⟨Nat.zero_le _, fun an nan => ?_⟩
  have u2 := same_upd (o := .lst []) nan
  have naa : a ≠ an := ne_of_none a1 nan
  have nda2 : dl ≠ an := ne_of_none l1 nan
  have nanH : H an = none := u1.free nan
  have D0 : DeskS A (upd H an (.lst [])) (fun _ => none) (upd H1 an (.lst [])) a dx dl .non VafmtbNeutral.start := by
   refine ⟨⟨u2 _ _ a1, rfl, ⟨[], u2 _ _ l1, .nil⟩, fun b o e => (by cases e), rfl, rfl, fun d hd => (by cases hd), Nat.zero_le _, rfl, rfl⟩, rfl, fun b o e => ?_, by rw [upd_ne naa]; exact na, by rw [upd_ne nda2]; exact ndl, fun _ _ _ => rfl⟩
   by_cases hb : b = an
   ·rw [hb, upd_same] at e ⊢
    exact e
   ·rw [upd_ne hb] at e ⊢
    exact u1 _ _ e
  refine ⟨fun k σ H' => ∃ (i : Nat) (v4 v5 : Option V) (He : Hp), i + k = cs.length ∧ σ = [some (.ref t), some (.ref a), some (.ref an), some (.int ((put (cs.take i)).length : Nat)), v4, v5] ∧ DeskAt A He H' a dx dl (stateOf VafmtbNeutral.start (cs.take i)) ∧ He an = some (.lst (intsV (told (played VafmtbNeutral.step VafmtbNeutral.start (cs.take i))))) ∧ Same H He,
   ⟨cs.length, 0, none, none, upd H an (.lst []), Nat.zero_add _, rfl, ⟨_, _, D0⟩, upd_same, same_upd nanH⟩, ?_⟩
  rintro k σ H' ⟨i, v4, v5, He, hik, rfl, ⟨Hd, lv, D⟩, han, sHe⟩
  have sH := sHe.trans D.out
  have S' : SqL K H' t (intsV (put cs)) := sH.seq hS
  have below : i < cs.length → (put (cs.take i)).length < (put cs).length := fun hi => by
   have hc : cs[i]? = some (cs[i]'hi) := List.getElem?_eq_getElem hi
   obtain ⟨ed, et⟩ := put_drop hc
   obtain ⟨z, r0, e1, _⟩ := put1_len (hC _ (List.getElem_mem hi))
   have := congrArg List.length ed
   rw [List.length_drop, List.length_append, e1, List.length_cons] at this
   omega
  refine ⟨_, rfl, _, rfl, t, _, rfl, .inl S', _, _, rfl, rfl, _, rfl, ?_⟩
  rw [intsV_length]
  refine ite_dec (fun hg => ?_) (fun hg => ?_)
  ·have hi : i < cs.length := by
    by_cases hi : i < cs.length
    ·exact hi
    ·have ei : i = cs.length := by omega
     rw [ei, List.take_length] at hg
     omega
   have hlt := below hi
   have hc : cs[i]? = some (cs[i]'hi) := List.getElem?_eq_getElem hi
   have hmem : cs[i]'hi ∈ cs := List.getElem_mem hi
   generalize cs[i]'hi = c at hc hmem
   have hCc := hC c hmem
   obtain ⟨ed, et⟩ := put_drop hc
   obtain ⟨z, r0, e1, _⟩ := put1_len hCc
   have hpl : 1 ≤ (put1 c).length := by
    rw [e1]
    simp
   have hdl : (put cs).length - (put (cs.take i)).length = (put1 c).length + (put (cs.drop (i + 1))).length := by
    have := congrArg List.length ed
    rw [List.length_drop, List.length_append] at this
    exact this
   refine ⟨_, fun _ _ h => h, ?_⟩
   refine ⟨_, rfl, _, rfl, _, rfl, t, put cs, (put (cs.take i)).length, c, _, rfl, S', ed, hCc, _, _, rfl, rfl, ?_⟩
   refine ⟨_, rfl, a, dx, _, rfl, D.dsk.at_, rfl, _, rfl, _, rfl, _, rfl, _, rfl, _, rfl, t, _, rfl, S', fun r nr => ?_⟩
   rw [cut_call ed (by omega)]
   have s2 := same_upd (o := .lst (intsV (put1 c))) nr
   have h2 : (upd H' r (.lst (intsV (put1 c)))) r = some (.lst (intsV (put1 c))) := upd_same
   have D2 := D.mono s2
   generalize upd H' r (.lst (intsV (put1 c))) = H2 at s2 h2 D2 ⊢
   refine ⟨He, Hd, a, dx, dl, r, lv, _, c, rfl, D2, h2, hCc, hask c hmem, fun H3 p ⟨Hd3, lv3, D3⟩ np hp => ?_⟩
   have han3 := D3.out _ _ han
   have npa : p ≠ an := (ne_of_none han np).symm
   have etk : cs.take (i + 1) = cs.take i ++ [c] := by
    rw [List.take_succ, hc]
    rfl
   have epl : told (played VafmtbNeutral.step VafmtbNeutral.start (cs.take (i + 1))) = told (played VafmtbNeutral.step VafmtbNeutral.start (cs.take i)) ++ (((VafmtbNeutral.step (stateOf VafmtbNeutral.start (cs.take i)) c).2.length : Int) :: (VafmtbNeutral.step (stateOf VafmtbNeutral.start (cs.take i)) c).2) := by
    rw [etk, played_snoc, told_snoc]
   have hlim := told_take cs (i + 1) VafmtbNeutral.start
   rw [epl, List.length_append, List.length_cons] at hlim
   refine ⟨_, rfl, .inl ⟨rfl, _, SqL.of han3⟩, _, rfl, p, _, rfl, .inl (SqL.of hp), an, _, _, rfl, rfl, han3, ?_, ?_⟩
   ·rw [intsV_length]
    exact Nat.lt_of_lt_of_le (m := 10000001) (by omega) (line_le (by omega))
   refine ⟨_, rfl, .inl ⟨rfl, _, SqL.of upd_same⟩, _, rfl, an, p, _, _, rfl, rfl, upd_same, by rw [upd_ne npa]; exact hp, ?_, ?_⟩
   ·rw [List.length_append, intsV_length, intsV_length]
    exact line_le (by show _ + 1 + _ ≤ _; omega)
   rw [upd_upd]
   refine ⟨_, rfl, k - 1, by omega, i + 1, some (.int (((put (cs.take i)).length : Int) + ((put1 c).length : Int))), some (.ref p), upd He an (.lst (intsV (told (played VafmtbNeutral.step VafmtbNeutral.start (cs.take (i + 1)))))), by omega, ?_, ⟨Hd3, lv3, ?_⟩, upd_same, ?_⟩
   ·have ep : ((put (cs.take (i + 1))).length : Int) = ((put (cs.take i)).length : Int) + ((put1 c).length : Int) := by
     rw [et, List.length_append]
     omega
    rw [ep]
    rfl
   ·have D4 := D3.ext (ys := intsV (told (played VafmtbNeutral.step VafmtbNeutral.start (cs.take (i + 1))))) han
    have ev : intsV (told (played VafmtbNeutral.step VafmtbNeutral.start (cs.take i))) ++ [V.int ((intsV (VafmtbNeutral.step (stateOf VafmtbNeutral.start (cs.take i)) c).2).length : Nat)] ++ intsV (VafmtbNeutral.step (stateOf VafmtbNeutral.start (cs.take i)) c).2 = intsV (told (played VafmtbNeutral.step VafmtbNeutral.start (cs.take (i + 1)))) := by
     rw [epl, intsV_append, intsV_length, List.append_assoc]
     rfl
    rw [ev, etk, stateOf_snoc, ← etk]
    exact D4
   ·exact sHe.wr nanH
  ·have ei : i = cs.length := by
    by_cases hi : i < cs.length
    ·have := below hi
     omega
    ·omega
   rw [ei, List.take_length] at han
   exact ⟨_, rfl, q H' an (D.out _ _ han)⟩
end
end WL
set_option Elab.async false
set_option linter.all false
set_option maxRecDepth 100000
set_option maxHeartbeats 2000000
namespace WL
open PySem PySem.Spec PyProof.Rows L2
open PySem.W (nsIn findIn isFn codeIn keepIn fnOf plainGet hasDictIn plainOver makesIn mg_of mg_none_of)
abbrev fdOf {K : PySem.W.Frag} {x qual : Str} {st : Stmt} {f : Addr} {fd : FuncData} (_ : Fun K x qual st f fd) : FuncData := fd
theorem all_mk {K : PySem.W.Frag} {h : Heap} {mg : Str → Option Value} {fa : Addr} (X : K.In h) (G : h.Ns mainGlobals mg) (hfa : mg "answers" = some (.ref fa)) {R : Prop} (kk : ∀ A : Ad, Tx A K mg → A.f_answers = fa → R)
 {C1 C2 C3 C4 C5 C6 C7 C8 f1 f2 f3 f4 f5 f6 f7 f8 f9 f10 f11 f12 f13 f14 f15 f16 f17 f18 f19 f20 f21 f22 f23 f24 f25 f26 f27 f28 f29 f30 f31 f32 f33 f34 f35 f36 f37 f38 f39 f40 f41 f42 f43 f44 f45 f46 f47 f48 f49 f50 f51 f52 f53 f54 f55 f56 f57 f58 f59 f60 f61 f62 f63 f64 f65 f66 f67 g0 : Addr}
 {o1 n1 o2 n2 o3 n3 o4 n4 o5 n5 o6 n6 o7 n7 o8 n8 o9 n9 o10 n10 o11 n11 o12 n12 o13 n13 o14 n14 o15 n15 o16 n16 o17 n17 o18 n18 o19 n19 o20 n20 o21 n21 o22 n22 o23 n23 o24 n24 o25 n25 o26 n26 o27 n27 o28 n28 o29 n29 o30 n30 o31 n31 o32 n32 o33 n33 o34 n34 o35 n35 o36 n36 o37 n37 o38 n38 o39 n39 o40 n40 o41 n41 o42 n42 o43 n43 o44 n44 o45 n45 o46 n46 o47 n47 o48 n48 o49 n49 o50 n50 o51 n51 o52 n52 o53 n53 o54 n54 o55 n55 o56 n56 o57 n57 o58 n58 o59 n59 o60 n60 o61 n61 o62 n62 o63 n63 o64 n64 o65 n65 o66 n66 o67 n67 : Option Addr}
 {s1 s2 s3 s4 s5 s6 s7 s8 s9 s10 s11 s12 s13 s14 s15 s16 s17 s18 s19 s20 s21 s22 s23 s24 s25 s26 s27 s28 s29 s30 s31 s32 s33 s34 s35 s36 s37 s38 s39 s40 s41 s42 s43 s44 s45 s46 s47 s48 s49 s50 s51 s52 s53 s54 s55 s56 s57 s58 s59 s60 s61 s62 s63 s64 s65 s66 s67 : Array (Option Value)}
 {c1 v1 d1 p1 e1 t1 c2 v2 d2 p2 e2 t2 c3 v3 d3 p3 e3 t3 c4 v4 d4 p4 e4 t4 c5 v5 d5 p5 e5 t5 c6 v6 d6 p6 e6 t6 c7 v7 d7 p7 e7 t7 c8 v8 d8 p8 e8 t8 c9 v9 d9 p9 e9 t9 c10 v10 d10 p10 e10 t10 c11 v11 d11 p11 e11 t11 c12 v12 d12 p12 e12 t12 c13 v13 d13 p13 e13 t13 c14 v14 d14 p14 e14 t14 c15 v15 d15 p15 e15 t15 c16 v16 d16 p16 e16 t16 c17 v17 d17 p17 e17 t17 c18 v18 d18 p18 e18 t18 c19 v19 d19 p19 e19 t19 c20 v20 d20 p20 e20 t20 c21 v21 d21 p21 e21 t21 c22 v22 d22 p22 e22 t22 c23 v23 d23 p23 e23 t23 c24 v24 d24 p24 e24 t24 c25 v25 d25 p25 e25 t25 c26 v26 d26 p26 e26 t26 c27 v27 d27 p27 e27 t27 c28 v28 d28 p28 e28 t28 c29 v29 d29 p29 e29 t29 c30 v30 d30 p30 e30 t30 c31 v31 d31 p31 e31 t31 c32 v32 d32 p32 e32 t32 c33 v33 d33 p33 e33 t33 c34 v34 d34 p34 e34 t34 c35 v35 d35 p35 e35 t35 c36 v36 d36 p36 e36 t36 c37 v37 d37 p37 e37 t37 c38 v38 d38 p38 e38 t38 c39 v39 d39 p39 e39 t39 c40 v40 d40 p40 e40 t40 c41 v41 d41 p41 e41 t41 c42 v42 d42 p42 e42 t42 c43 v43 d43 p43 e43 t43 c44 v44 d44 p44 e44 t44 c45 v45 d45 p45 e45 t45 c46 v46 d46 p46 e46 t46 c47 v47 d47 p47 e47 t47 c48 v48 d48 p48 e48 t48 c49 v49 d49 p49 e49 t49 c50 v50 d50 p50 e50 t50 c51 v51 d51 p51 e51 t51 c52 v52 d52 p52 e52 t52 c53 v53 d53 p53 e53 t53 c54 v54 d54 p54 e54 t54 c55 v55 d55 p55 e55 t55 c56 v56 d56 p56 e56 t56 c57 v57 d57 p57 e57 t57 c58 v58 d58 p58 e58 t58 c59 v59 d59 p59 e59 t59 c60 v60 d60 p60 e60 t60 c61 v61 d61 p61 e61 t61 c62 v62 d62 p62 e62 t62 c63 v63 d63 p63 e63 t63 c64 v64 d64 p64 e64 t64 c65 v65 d65 p65 e65 t65 c66 v66 d66 p66 e66 t66 c67 v67 d67 p67 e67 t67 : Value}
 {u1 u2 u3 u4 u5 u6 u7 u8 u9 u10 u11 u12 u13 u14 u15 u16 u17 u18 u19 u20 u21 u22 u23 u24 u25 u26 u27 u28 u29 u30 u31 u32 u33 u34 u35 u36 u37 u38 u39 u40 u41 u42 u43 u44 u45 u46 u47 u48 w0_0 w0_1 w0_2 w0_3 w0_4 w0_5 w0_6 w0_7 w0_8 w0_9 w0_10 w0_11 w0_12 w0_13 : Tok} {k0 : Nat}
 (h1 : nsIn K mainGlobals "Part" = some (some (.ref C1)))
 (h2 : plainGet K C1 Str.empty = true)
 (h3 : hasDictIn K C1 = true)
 (h4 : plainOver K C1 = true)
 (h5 : findIn K (.ref C1) "__setattr__" = some (some (.builtin "object.__setattr__")))
 (h6 : makesIn K C1 = true)
 (h7 : keepIn K (.ref C1) = true)
 (h8 : findIn K (.ref C1) "kind" = some none)
 (h9 : findIn K (.ref C1) "number" = some none)
 (h10 : findIn K (.ref C1) "text" = some none)
 (h11 : nsIn K mainGlobals "Document" = some (some (.ref C2)))
 (h12 : plainGet K C2 Str.empty = true)
 (h13 : hasDictIn K C2 = true)
 (h14 : plainOver K C2 = true)
 (h15 : findIn K (.ref C2) "__setattr__" = some (some (.builtin "object.__setattr__")))
 (h16 : makesIn K C2 = true)
 (h17 : keepIn K (.ref C2) = true)
 (h18 : findIn K (.ref C2) "parts" = some none)
 (h19 : findIn K (.ref C2) "spans" = some none)
 (h20 : findIn K (.ref C2) "depths" = some none)
 (h21 : findIn K (.ref C2) "forced" = some none)
 (h22 : nsIn K mainGlobals "Line" = some (some (.ref C3)))
 (h23 : plainGet K C3 Str.empty = true)
 (h24 : hasDictIn K C3 = true)
 (h25 : plainOver K C3 = true)
 (h26 : findIn K (.ref C3) "__setattr__" = some (some (.builtin "object.__setattr__")))
 (h27 : makesIn K C3 = true)
 (h28 : keepIn K (.ref C3) = true)
 (h29 : findIn K (.ref C3) "indent" = some none)
 (h30 : findIn K (.ref C3) "length" = some none)
 (h31 : findIn K (.ref C3) "flat_breaks" = some none)
 (h32 : nsIn K mainGlobals "Lines" = some (some (.ref C4)))
 (h33 : plainGet K C4 Str.empty = true)
 (h34 : hasDictIn K C4 = true)
 (h35 : plainOver K C4 = true)
 (h36 : findIn K (.ref C4) "__setattr__" = some (some (.builtin "object.__setattr__")))
 (h37 : makesIn K C4 = true)
 (h38 : keepIn K (.ref C4) = true)
 (h39 : findIn K (.ref C4) "found" = some none)
 (h40 : findIn K (.ref C4) "waiting" = some none)
 (h41 : nsIn K mainGlobals "Pen" = some (some (.ref C5)))
 (h42 : plainGet K C5 Str.empty = true)
 (h43 : hasDictIn K C5 = true)
 (h44 : plainOver K C5 = true)
 (h45 : findIn K (.ref C5) "__setattr__" = some (some (.builtin "object.__setattr__")))
 (h46 : makesIn K C5 = true)
 (h47 : keepIn K (.ref C5) = true)
 (h48 : findIn K (.ref C5) "column" = some none)
 (h49 : findIn K (.ref C5) "held" = some none)
 (h50 : findIn K (.ref C5) "held_indent" = some none)
 (h51 : nsIn K mainGlobals "Command" = some (some (.ref C6)))
 (h52 : plainGet K C6 Str.empty = true)
 (h53 : hasDictIn K C6 = true)
 (h54 : plainOver K C6 = true)
 (h55 : findIn K (.ref C6) "__setattr__" = some (some (.builtin "object.__setattr__")))
 (h56 : makesIn K C6 = true)
 (h57 : keepIn K (.ref C6) = true)
 (h58 : findIn K (.ref C6) "place" = some none)
 (h59 : findIn K (.ref C6) "indent" = some none)
 (h60 : findIn K (.ref C6) "flat" = some none)
 (h61 : nsIn K mainGlobals "Laying" = some (some (.ref C7)))
 (h62 : plainGet K C7 Str.empty = true)
 (h63 : hasDictIn K C7 = true)
 (h64 : plainOver K C7 = true)
 (h65 : findIn K (.ref C7) "__setattr__" = some (some (.builtin "object.__setattr__")))
 (h66 : makesIn K C7 = true)
 (h67 : keepIn K (.ref C7) = true)
 (h68 : findIn K (.ref C7) "document" = some none)
 (h69 : findIn K (.ref C7) "width" = some none)
 (h70 : findIn K (.ref C7) "pen" = some none)
 (h71 : findIn K (.ref C7) "written" = some none)
 (h72 : findIn K (.ref C7) "lines" = some none)
 (h73 : findIn K (.ref C7) "flat_groups" = some none)
 (h74 : findIn K (.ref C7) "greatest_reach" = some none)
 (h75 : findIn K (.ref C7) "taken" = some none)
 (h76 : findIn K (.ref C7) "commands" = some none)
 (h77 : nsIn K mainGlobals "Desk" = some (some (.ref C8)))
 (h78 : plainGet K C8 Str.empty = true)
 (h79 : hasDictIn K C8 = true)
 (h80 : plainOver K C8 = true)
 (h81 : findIn K (.ref C8) "__setattr__" = some (some (.builtin "object.__setattr__")))
 (h82 : makesIn K C8 = true)
 (h83 : keepIn K (.ref C8) = true)
 (h84 : findIn K (.ref C8) "documents" = some none)
 (h85 : findIn K (.ref C8) "laying" = some none)
 (h86 : nsIn K mainGlobals "numbers_of" = some (some (.ref f1)))
 (h87 : K.lookup f1 = some ⟨c1, o1, .func (fnOf "numbers_of" "numbers_of" (defArgs s_numbers_of) (defBody s_numbers_of) (defScope s_numbers_of) .none v1 d1 p1 n1 e1 t1), s1⟩)
 (h88 : codeIn K e1 "numbers_of" = true)
 (h89 : keepIn K (.ref f1) = true)
 (h90 : nsIn K mainGlobals "count_inner" = some (some (.ref f2)))
 (h91 : K.lookup f2 = some ⟨c2, o2, .func (fnOf "count_inner" "count_inner" (defArgs s_count_inner) (defBody s_count_inner) (defScope s_count_inner) .none v2 d2 p2 n2 e2 t2), s2⟩)
 (h92 : codeIn K e2 "count_inner" = true)
 (h93 : keepIn K (.ref f2) = true)
 (h94 : nsIn K mainGlobals "count_parts" = some (some (.ref f3)))
 (h95 : K.lookup f3 = some ⟨c3, o3, .func (fnOf "count_parts" "count_parts" (defArgs s_count_parts) (defBody s_count_parts) (defScope s_count_parts) .none v3 d3 p3 n3 e3 t3), s3⟩)
 (h96 : codeIn K e3 "count_parts" = true)
 (h97 : keepIn K (.ref f3) = true)
 (h98 : nsIn K mainGlobals "spell_out" = some (some (.ref f4)))
 (h99 : K.lookup f4 = some ⟨c4, o4, .func (fnOf "spell_out" "spell_out" (defArgs s_spell_out) (defBody s_spell_out) (defScope s_spell_out) .none v4 d4 p4 n4 e4 t4), s4⟩)
 (h100 : codeIn K e4 "spell_out" = true)
 (h101 : keepIn K (.ref f4) = true)
 (h102 : nsIn K mainGlobals "make_document" = some (some (.ref f5)))
 (h103 : K.lookup f5 = some ⟨c5, o5, .func (fnOf "make_document" "make_document" (defArgs s_make_document) (defBody s_make_document) (defScope s_make_document) .none v5 d5 p5 n5 e5 t5), s5⟩)
 (h104 : codeIn K e5 "make_document" = true)
 (h105 : keepIn K (.ref f5) = true)
 (h106 : nsIn K mainGlobals "lay_out" = some (some (.ref f6)))
 (h107 : K.lookup f6 = some ⟨c6, o6, .func (fnOf "lay_out" "lay_out" (defArgs s_lay_out) (defBody s_lay_out) (defScope s_lay_out) .none v6 d6 p6 n6 e6 t6), s6⟩)
 (h108 : codeIn K e6 "lay_out" = true)
 (h109 : keepIn K (.ref f6) = true)
 (h110 : nsIn K mainGlobals "least_width" = some (some (.ref f7)))
 (h111 : K.lookup f7 = some ⟨c7, o7, .func (fnOf "least_width" "least_width" (defArgs s_least_width) (defBody s_least_width) (defScope s_least_width) .none v7 d7 p7 n7 e7 t7), s7⟩)
 (h112 : codeIn K e7 "least_width" = true)
 (h113 : keepIn K (.ref f7) = true)
 (h114 : nsIn K mainGlobals "is_text" = some (some (.ref f8)))
 (h115 : K.lookup f8 = some ⟨c8, o8, .func (fnOf "is_text" "is_text" (defArgs s_is_text) (defBody s_is_text) (defScope s_is_text) .none v8 d8 p8 n8 e8 t8), s8⟩)
 (h116 : codeIn K e8 "is_text" = true)
 (h117 : keepIn K (.ref f8) = true)
 (h118 : nsIn K mainGlobals "number_is_right" = some (some (.ref f9)))
 (h119 : K.lookup f9 = some ⟨c9, o9, .func (fnOf "number_is_right" "number_is_right" (defArgs s_number_is_right) (defBody s_number_is_right) (defScope s_number_is_right) .none v9 d9 p9 n9 e9 t9), s9⟩)
 (h120 : codeIn K e9 "number_is_right" = true)
 (h121 : keepIn K (.ref f9) = true)
 (h122 : nsIn K mainGlobals "read_numbered" = some (some (.ref f10)))
 (h123 : K.lookup f10 = some ⟨c10, o10, .func (fnOf "read_numbered" "read_numbered" (defArgs s_read_numbered) (defBody s_read_numbered) (defScope s_read_numbered) .none v10 d10 p10 n10 e10 t10), s10⟩)
 (h124 : codeIn K e10 "read_numbered" = true)
 (h125 : keepIn K (.ref f10) = true)
 (h126 : nsIn K mainGlobals "read_part" = some (some (.ref f11)))
 (h127 : K.lookup f11 = some ⟨c11, o11, .func (fnOf "read_part" "read_part" (defArgs s_read_part) (defBody s_read_part) (defScope s_read_part) .none v11 d11 p11 n11 e11 t11), s11⟩)
 (h128 : codeIn K e11 "read_part" = true)
 (h129 : keepIn K (.ref f11) = true)
 (h130 : nsIn K mainGlobals "read_parts" = some (some (.ref f12)))
 (h131 : K.lookup f12 = some ⟨c12, o12, .func (fnOf "read_parts" "read_parts" (defArgs s_read_parts) (defBody s_read_parts) (defScope s_read_parts) .none v12 d12 p12 n12 e12 t12), s12⟩)
 (h132 : codeIn K e12 "read_parts" = true)
 (h133 : keepIn K (.ref f12) = true)
 (h134 : nsIn K mainGlobals "call_length" = some (some (.ref f13)))
 (h135 : K.lookup f13 = some ⟨c13, o13, .func (fnOf "call_length" "call_length" (defArgs s_call_length) (defBody s_call_length) (defScope s_call_length) .none v13 d13 p13 n13 e13 t13), s13⟩)
 (h136 : codeIn K e13 "call_length" = true)
 (h137 : keepIn K (.ref f13) = true)
 (h138 : nsIn K mainGlobals "answers" = some (some (.ref f14)))
 (h139 : K.lookup f14 = some ⟨c14, o14, .func (fnOf "answers" "answers" (defArgs s_answers) (defBody s_answers) (defScope s_answers) .none v14 d14 p14 n14 e14 t14), s14⟩)
 (h140 : codeIn K e14 "answers" = true)
 (h141 : keepIn K (.ref f14) = true)
 (h142 : findIn K (.ref C1) "__init__" = some (some (.ref f15)))
 (h143 : isFn K (.ref f15) = true)
 (h144 : K.lookup f15 = some ⟨c15, o15, .func (fnOf "__init__" "Part.__init__" (defArgs s_Part___init__) (defBody s_Part___init__) (defScope s_Part___init__) .none v15 d15 p15 n15 e15 t15), s15⟩)
 (h145 : codeIn K e15 "Part.__init__" = true)
 (h146 : keepIn K (.ref f15) = true)
 (h147 : findIn K (.ref C2) "__init__" = some (some (.ref f16)))
 (h148 : isFn K (.ref f16) = true)
 (h149 : K.lookup f16 = some ⟨c16, o16, .func (fnOf "__init__" "Document.__init__" (defArgs s_Document___init__) (defBody s_Document___init__) (defScope s_Document___init__) .none v16 d16 p16 n16 e16 t16), s16⟩)
 (h150 : codeIn K e16 "Document.__init__" = true)
 (h151 : keepIn K (.ref f16) = true)
 (h152 : findIn K (.ref C2) "measure" = some (some (.ref f17)))
 (h153 : isFn K (.ref f17) = true)
 (h154 : K.lookup f17 = some ⟨c17, o17, .func (fnOf "measure" "Document.measure" (defArgs s_Document_measure) (defBody s_Document_measure) (defScope s_Document_measure) .none v17 d17 p17 n17 e17 t17), s17⟩)
 (h155 : codeIn K e17 "Document.measure" = true)
 (h156 : keepIn K (.ref f17) = true)
 (h157 : findIn K (.ref C2) "inner_places" = some (some (.ref f18)))
 (h158 : isFn K (.ref f18) = true)
 (h159 : K.lookup f18 = some ⟨c18, o18, .func (fnOf "inner_places" "Document.inner_places" (defArgs s_Document_inner_places) (defBody s_Document_inner_places) (defScope s_Document_inner_places) .none v18 d18 p18 n18 e18 t18), s18⟩)
 (h160 : codeIn K e18 "Document.inner_places" = true)
 (h161 : keepIn K (.ref f18) = true)
 (h162 : findIn K (.ref C2) "count_bytes" = some (some (.ref f19)))
 (h163 : isFn K (.ref f19) = true)
 (h164 : K.lookup f19 = some ⟨c19, o19, .func (fnOf "count_bytes" "Document.count_bytes" (defArgs s_Document_count_bytes) (defBody s_Document_count_bytes) (defScope s_Document_count_bytes) .none v19 d19 p19 n19 e19 t19), s19⟩)
 (h165 : codeIn K e19 "Document.count_bytes" = true)
 (h166 : keepIn K (.ref f19) = true)
 (h167 : findIn K (.ref C2) "count_groups" = some (some (.ref f20)))
 (h168 : isFn K (.ref f20) = true)
 (h169 : K.lookup f20 = some ⟨c20, o20, .func (fnOf "count_groups" "Document.count_groups" (defArgs s_Document_count_groups) (defBody s_Document_count_groups) (defScope s_Document_count_groups) .none v20 d20 p20 n20 e20 t20), s20⟩)
 (h170 : codeIn K e20 "Document.count_groups" = true)
 (h171 : keepIn K (.ref f20) = true)
 (h172 : findIn K (.ref C2) "row_numbers" = some (some (.ref f21)))
 (h173 : isFn K (.ref f21) = true)
 (h174 : K.lookup f21 = some ⟨c21, o21, .func (fnOf "row_numbers" "Document.row_numbers" (defArgs s_Document_row_numbers) (defBody s_Document_row_numbers) (defScope s_Document_row_numbers) .none v21 d21 p21 n21 e21 t21), s21⟩)
 (h175 : codeIn K e21 "Document.row_numbers" = true)
 (h176 : keepIn K (.ref f21) = true)
 (h177 : findIn K (.ref C3) "__init__" = some (some (.ref f22)))
 (h178 : isFn K (.ref f22) = true)
 (h179 : K.lookup f22 = some ⟨c22, o22, .func (fnOf "__init__" "Line.__init__" (defArgs s_Line___init__) (defBody s_Line___init__) (defScope s_Line___init__) .none v22 d22 p22 n22 e22 t22), s22⟩)
 (h180 : codeIn K e22 "Line.__init__" = true)
 (h181 : keepIn K (.ref f22) = true)
 (h182 : findIn K (.ref C4) "__init__" = some (some (.ref f23)))
 (h183 : isFn K (.ref f23) = true)
 (h184 : K.lookup f23 = some ⟨c23, o23, .func (fnOf "__init__" "Lines.__init__" (defArgs s_Lines___init__) (defBody s_Lines___init__) (defScope s_Lines___init__) .none v23 d23 p23 n23 e23 t23), s23⟩)
 (h185 : codeIn K e23 "Lines.__init__" = true)
 (h186 : keepIn K (.ref f23) = true)
 (h187 : findIn K (.ref C4) "take_flat_break" = some (some (.ref f24)))
 (h188 : isFn K (.ref f24) = true)
 (h189 : K.lookup f24 = some ⟨c24, o24, .func (fnOf "take_flat_break" "Lines.take_flat_break" (defArgs s_Lines_take_flat_break) (defBody s_Lines_take_flat_break) (defScope s_Lines_take_flat_break) .none v24 d24 p24 n24 e24 t24), s24⟩)
 (h190 : codeIn K e24 "Lines.take_flat_break" = true)
 (h191 : keepIn K (.ref f24) = true)
 (h192 : findIn K (.ref C4) "take_text" = some (some (.ref f25)))
 (h193 : isFn K (.ref f25) = true)
 (h194 : K.lookup f25 = some ⟨c25, o25, .func (fnOf "take_text" "Lines.take_text" (defArgs s_Lines_take_text) (defBody s_Lines_take_text) (defScope s_Lines_take_text) .none v25 d25 p25 n25 e25 t25), s25⟩)
 (h195 : codeIn K e25 "Lines.take_text" = true)
 (h196 : keepIn K (.ref f25) = true)
 (h197 : findIn K (.ref C4) "greatest_length" = some (some (.ref f26)))
 (h198 : isFn K (.ref f26) = true)
 (h199 : K.lookup f26 = some ⟨c26, o26, .func (fnOf "greatest_length" "Lines.greatest_length" (defArgs s_Lines_greatest_length) (defBody s_Lines_greatest_length) (defScope s_Lines_greatest_length) .none v26 d26 p26 n26 e26 t26), s26⟩)
 (h200 : codeIn K e26 "Lines.greatest_length" = true)
 (h201 : keepIn K (.ref f26) = true)
 (h202 : findIn K (.ref C4) "told_numbers" = some (some (.ref f27)))
 (h203 : isFn K (.ref f27) = true)
 (h204 : K.lookup f27 = some ⟨c27, o27, .func (fnOf "told_numbers" "Lines.told_numbers" (defArgs s_Lines_told_numbers) (defBody s_Lines_told_numbers) (defScope s_Lines_told_numbers) .none v27 d27 p27 n27 e27 t27), s27⟩)
 (h205 : codeIn K e27 "Lines.told_numbers" = true)
 (h206 : keepIn K (.ref f27) = true)
 (h207 : findIn K (.ref C5) "__init__" = some (some (.ref f28)))
 (h208 : isFn K (.ref f28) = true)
 (h209 : K.lookup f28 = some ⟨c28, o28, .func (fnOf "__init__" "Pen.__init__" (defArgs s_Pen___init__) (defBody s_Pen___init__) (defScope s_Pen___init__) .none v28 d28 p28 n28 e28 t28), s28⟩)
 (h210 : codeIn K e28 "Pen.__init__" = true)
 (h211 : keepIn K (.ref f28) = true)
 (h212 : findIn K (.ref C5) "another" = some (some (.ref f29)))
 (h213 : isFn K (.ref f29) = true)
 (h214 : K.lookup f29 = some ⟨c29, o29, .func (fnOf "another" "Pen.another" (defArgs s_Pen_another) (defBody s_Pen_another) (defScope s_Pen_another) .none v29 d29 p29 n29 e29 t29), s29⟩)
 (h215 : codeIn K e29 "Pen.another" = true)
 (h216 : keepIn K (.ref f29) = true)
 (h217 : findIn K (.ref C5) "hold" = some (some (.ref f30)))
 (h218 : isFn K (.ref f30) = true)
 (h219 : K.lookup f30 = some ⟨c30, o30, .func (fnOf "hold" "Pen.hold" (defArgs s_Pen_hold) (defBody s_Pen_hold) (defScope s_Pen_hold) .none v30 d30 p30 n30 e30 t30), s30⟩)
 (h220 : codeIn K e30 "Pen.hold" = true)
 (h221 : keepIn K (.ref f30) = true)
 (h222 : findIn K (.ref C5) "take_blank" = some (some (.ref f31)))
 (h223 : isFn K (.ref f31) = true)
 (h224 : K.lookup f31 = some ⟨c31, o31, .func (fnOf "take_blank" "Pen.take_blank" (defArgs s_Pen_take_blank) (defBody s_Pen_take_blank) (defScope s_Pen_take_blank) .none v31 d31 p31 n31 e31 t31), s31⟩)
 (h225 : codeIn K e31 "Pen.take_blank" = true)
 (h226 : keepIn K (.ref f31) = true)
 (h227 : findIn K (.ref C5) "take_break" = some (some (.ref f32)))
 (h228 : isFn K (.ref f32) = true)
 (h229 : K.lookup f32 = some ⟨c32, o32, .func (fnOf "take_break" "Pen.take_break" (defArgs s_Pen_take_break) (defBody s_Pen_take_break) (defScope s_Pen_take_break) .none v32 d32 p32 n32 e32 t32), s32⟩)
 (h230 : codeIn K e32 "Pen.take_break" = true)
 (h231 : keepIn K (.ref f32) = true)
 (h232 : findIn K (.ref C5) "take_gap" = some (some (.ref f33)))
 (h233 : isFn K (.ref f33) = true)
 (h234 : K.lookup f33 = some ⟨c33, o33, .func (fnOf "take_gap" "Pen.take_gap" (defArgs s_Pen_take_gap) (defBody s_Pen_take_gap) (defScope s_Pen_take_gap) .none v33 d33 p33 n33 e33 t33), s33⟩)
 (h235 : codeIn K e33 "Pen.take_gap" = true)
 (h236 : keepIn K (.ref f33) = true)
 (h237 : findIn K (.ref C5) "take_text" = some (some (.ref f34)))
 (h238 : isFn K (.ref f34) = true)
 (h239 : K.lookup f34 = some ⟨c34, o34, .func (fnOf "take_text" "Pen.take_text" (defArgs s_Pen_take_text) (defBody s_Pen_take_text) (defScope s_Pen_take_text) .none v34 d34 p34 n34 e34 t34), s34⟩)
 (h240 : codeIn K e34 "Pen.take_text" = true)
 (h241 : keepIn K (.ref f34) = true)
 (h242 : findIn K (.ref C5) "text_column" = some (some (.ref f35)))
 (h243 : isFn K (.ref f35) = true)
 (h244 : K.lookup f35 = some ⟨c35, o35, .func (fnOf "text_column" "Pen.text_column" (defArgs s_Pen_text_column) (defBody s_Pen_text_column) (defScope s_Pen_text_column) .none v35 d35 p35 n35 e35 t35), s35⟩)
 (h245 : codeIn K e35 "Pen.text_column" = true)
 (h246 : keepIn K (.ref f35) = true)
 (h247 : findIn K (.ref C5) "held_breaks" = some (some (.ref f36)))
 (h248 : isFn K (.ref f36) = true)
 (h249 : K.lookup f36 = some ⟨c36, o36, .func (fnOf "held_breaks" "Pen.held_breaks" (defArgs s_Pen_held_breaks) (defBody s_Pen_held_breaks) (defScope s_Pen_held_breaks) .none v36 d36 p36 n36 e36 t36), s36⟩)
 (h250 : codeIn K e36 "Pen.held_breaks" = true)
 (h251 : keepIn K (.ref f36) = true)
 (h252 : findIn K (.ref C5) "held_bytes" = some (some (.ref f37)))
 (h253 : isFn K (.ref f37) = true)
 (h254 : K.lookup f37 = some ⟨c37, o37, .func (fnOf "held_bytes" "Pen.held_bytes" (defArgs s_Pen_held_bytes) (defBody s_Pen_held_bytes) (defScope s_Pen_held_bytes) .none v37 d37 p37 n37 e37 t37), s37⟩)
 (h255 : codeIn K e37 "Pen.held_bytes" = true)
 (h256 : keepIn K (.ref f37) = true)
 (h257 : findIn K (.ref C6) "__init__" = some (some (.ref f38)))
 (h258 : isFn K (.ref f38) = true)
 (h259 : K.lookup f38 = some ⟨c38, o38, .func (fnOf "__init__" "Command.__init__" (defArgs s_Command___init__) (defBody s_Command___init__) (defScope s_Command___init__) .none v38 d38 p38 n38 e38 t38), s38⟩)
 (h260 : codeIn K e38 "Command.__init__" = true)
 (h261 : keepIn K (.ref f38) = true)
 (h262 : findIn K (.ref C7) "__init__" = some (some (.ref f39)))
 (h263 : isFn K (.ref f39) = true)
 (h264 : K.lookup f39 = some ⟨c39, o39, .func (fnOf "__init__" "Laying.__init__" (defArgs s_Laying___init__) (defBody s_Laying___init__) (defScope s_Laying___init__) .none v39 d39 p39 n39 e39 t39), s39⟩)
 (h265 : codeIn K e39 "Laying.__init__" = true)
 (h266 : keepIn K (.ref f39) = true)
 (h267 : findIn K (.ref C7) "finish" = some (some (.ref f40)))
 (h268 : isFn K (.ref f40) = true)
 (h269 : K.lookup f40 = some ⟨c40, o40, .func (fnOf "finish" "Laying.finish" (defArgs s_Laying_finish) (defBody s_Laying_finish) (defScope s_Laying_finish) .none v40 d40 p40 n40 e40 t40), s40⟩)
 (h270 : codeIn K e40 "Laying.finish" = true)
 (h271 : keepIn K (.ref f40) = true)
 (h272 : findIn K (.ref C7) "advance" = some (some (.ref f41)))
 (h273 : isFn K (.ref f41) = true)
 (h274 : K.lookup f41 = some ⟨c41, o41, .func (fnOf "advance" "Laying.advance" (defArgs s_Laying_advance) (defBody s_Laying_advance) (defScope s_Laying_advance) .none v41 d41 p41 n41 e41 t41), s41⟩)
 (h275 : codeIn K e41 "Laying.advance" = true)
 (h276 : keepIn K (.ref f41) = true)
 (h277 : findIn K (.ref C7) "tell_first" = some (some (.ref f42)))
 (h278 : isFn K (.ref f42) = true)
 (h279 : K.lookup f42 = some ⟨c42, o42, .func (fnOf "tell_first" "Laying.tell_first" (defArgs s_Laying_tell_first) (defBody s_Laying_tell_first) (defScope s_Laying_tell_first) .none v42 d42 p42 n42 e42 t42), s42⟩)
 (h280 : codeIn K e42 "Laying.tell_first" = true)
 (h281 : keepIn K (.ref f42) = true)
 (h282 : findIn K (.ref C7) "step" = some (some (.ref f43)))
 (h283 : isFn K (.ref f43) = true)
 (h284 : K.lookup f43 = some ⟨c43, o43, .func (fnOf "step" "Laying.step" (defArgs s_Laying_step) (defBody s_Laying_step) (defScope s_Laying_step) .none v43 d43 p43 n43 e43 t43), s43⟩)
 (h285 : codeIn K e43 "Laying.step" = true)
 (h286 : keepIn K (.ref f43) = true)
 (h287 : findIn K (.ref C7) "write" = some (some (.ref f44)))
 (h288 : isFn K (.ref f44) = true)
 (h289 : K.lookup f44 = some ⟨c44, o44, .func (fnOf "write" "Laying.write" (defArgs s_Laying_write) (defBody s_Laying_write) (defScope s_Laying_write) .none v44 d44 p44 n44 e44 t44), s44⟩)
 (h290 : codeIn K e44 "Laying.write" = true)
 (h291 : keepIn K (.ref f44) = true)
 (h292 : findIn K (.ref C7) "step_mark" = some (some (.ref f45)))
 (h293 : isFn K (.ref f45) = true)
 (h294 : K.lookup f45 = some ⟨c45, o45, .func (fnOf "step_mark" "Laying.step_mark" (defArgs s_Laying_step_mark) (defBody s_Laying_step_mark) (defScope s_Laying_step_mark) .none v45 d45 p45 n45 e45 t45), s45⟩)
 (h295 : codeIn K e45 "Laying.step_mark" = true)
 (h296 : keepIn K (.ref f45) = true)
 (h297 : findIn K (.ref C7) "step_group" = some (some (.ref f46)))
 (h298 : isFn K (.ref f46) = true)
 (h299 : K.lookup f46 = some ⟨c46, o46, .func (fnOf "step_group" "Laying.step_group" (defArgs s_Laying_step_group) (defBody s_Laying_step_group) (defScope s_Laying_step_group) .none v46 d46 p46 n46 e46 t46), s46⟩)
 (h300 : codeIn K e46 "Laying.step_group" = true)
 (h301 : keepIn K (.ref f46) = true)
 (h302 : findIn K (.ref C7) "go_inside" = some (some (.ref f47)))
 (h303 : isFn K (.ref f47) = true)
 (h304 : K.lookup f47 = some ⟨c47, o47, .func (fnOf "go_inside" "Laying.go_inside" (defArgs s_Laying_go_inside) (defBody s_Laying_go_inside) (defScope s_Laying_go_inside) .none v47 d47 p47 n47 e47 t47), s47⟩)
 (h305 : codeIn K e47 "Laying.go_inside" = true)
 (h306 : keepIn K (.ref f47) = true)
 (h307 : findIn K (.ref C7) "fits" = some (some (.ref f48)))
 (h308 : isFn K (.ref f48) = true)
 (h309 : K.lookup f48 = some ⟨c48, o48, .func (fnOf "fits" "Laying.fits" (defArgs s_Laying_fits) (defBody s_Laying_fits) (defScope s_Laying_fits) .none v48 d48 p48 n48 e48 t48), s48⟩)
 (h310 : codeIn K e48 "Laying.fits" = true)
 (h311 : keepIn K (.ref f48) = true)
 (h312 : findIn K (.ref C7) "find_reach" = some (some (.ref f49)))
 (h313 : isFn K (.ref f49) = true)
 (h314 : K.lookup f49 = some ⟨c49, o49, .func (fnOf "find_reach" "Laying.find_reach" (defArgs s_Laying_find_reach) (defBody s_Laying_find_reach) (defScope s_Laying_find_reach) .none v49 d49 p49 n49 e49 t49), s49⟩)
 (h315 : codeIn K e49 "Laying.find_reach" = true)
 (h316 : keepIn K (.ref f49) = true)
 (h317 : findIn K (.ref C8) "__init__" = some (some (.ref f50)))
 (h318 : isFn K (.ref f50) = true)
 (h319 : K.lookup f50 = some ⟨c50, o50, .func (fnOf "__init__" "Desk.__init__" (defArgs s_Desk___init__) (defBody s_Desk___init__) (defScope s_Desk___init__) .none v50 d50 p50 n50 e50 t50), s50⟩)
 (h320 : codeIn K e50 "Desk.__init__" = true)
 (h321 : keepIn K (.ref f50) = true)
 (h322 : findIn K (.ref C8) "answer" = some (some (.ref f51)))
 (h323 : isFn K (.ref f51) = true)
 (h324 : K.lookup f51 = some ⟨c51, o51, .func (fnOf "answer" "Desk.answer" (defArgs s_Desk_answer) (defBody s_Desk_answer) (defScope s_Desk_answer) .none v51 d51 p51 n51 e51 t51), s51⟩)
 (h325 : codeIn K e51 "Desk.answer" = true)
 (h326 : keepIn K (.ref f51) = true)
 (h327 : findIn K (.ref C8) "answer_put" = some (some (.ref f52)))
 (h328 : isFn K (.ref f52) = true)
 (h329 : K.lookup f52 = some ⟨c52, o52, .func (fnOf "answer_put" "Desk.answer_put" (defArgs s_Desk_answer_put) (defBody s_Desk_answer_put) (defScope s_Desk_answer_put) .none v52 d52 p52 n52 e52 t52), s52⟩)
 (h330 : codeIn K e52 "Desk.answer_put" = true)
 (h331 : keepIn K (.ref f52) = true)
 (h332 : findIn K (.ref C8) "answer_drop" = some (some (.ref f53)))
 (h333 : isFn K (.ref f53) = true)
 (h334 : K.lookup f53 = some ⟨c53, o53, .func (fnOf "answer_drop" "Desk.answer_drop" (defArgs s_Desk_answer_drop) (defBody s_Desk_answer_drop) (defScope s_Desk_answer_drop) .none v53 d53 p53 n53 e53 t53), s53⟩)
 (h335 : codeIn K e53 "Desk.answer_drop" = true)
 (h336 : keepIn K (.ref f53) = true)
 (h337 : findIn K (.ref C8) "holds" = some (some (.ref f54)))
 (h338 : isFn K (.ref f54) = true)
 (h339 : K.lookup f54 = some ⟨c54, o54, .func (fnOf "holds" "Desk.holds" (defArgs s_Desk_holds) (defBody s_Desk_holds) (defScope s_Desk_holds) .none v54 d54 p54 n54 e54 t54), s54⟩)
 (h340 : codeIn K e54 "Desk.holds" = true)
 (h341 : keepIn K (.ref f54) = true)
 (h342 : findIn K (.ref C8) "answer_told" = some (some (.ref f55)))
 (h343 : isFn K (.ref f55) = true)
 (h344 : K.lookup f55 = some ⟨c55, o55, .func (fnOf "answer_told" "Desk.answer_told" (defArgs s_Desk_answer_told) (defBody s_Desk_answer_told) (defScope s_Desk_answer_told) .none v55 d55 p55 n55 e55 t55), s55⟩)
 (h345 : codeIn K e55 "Desk.answer_told" = true)
 (h346 : keepIn K (.ref f55) = true)
 (h347 : findIn K (.ref C8) "answer_size" = some (some (.ref f56)))
 (h348 : isFn K (.ref f56) = true)
 (h349 : K.lookup f56 = some ⟨c56, o56, .func (fnOf "answer_size" "Desk.answer_size" (defArgs s_Desk_answer_size) (defBody s_Desk_answer_size) (defScope s_Desk_answer_size) .none v56 d56 p56 n56 e56 t56), s56⟩)
 (h350 : codeIn K e56 "Desk.answer_size" = true)
 (h351 : keepIn K (.ref f56) = true)
 (h352 : findIn K (.ref C8) "answer_flat" = some (some (.ref f57)))
 (h353 : isFn K (.ref f57) = true)
 (h354 : K.lookup f57 = some ⟨c57, o57, .func (fnOf "answer_flat" "Desk.answer_flat" (defArgs s_Desk_answer_flat) (defBody s_Desk_answer_flat) (defScope s_Desk_answer_flat) .none v57 d57 p57 n57 e57 t57), s57⟩)
 (h355 : codeIn K e57 "Desk.answer_flat" = true)
 (h356 : keepIn K (.ref f57) = true)
 (h357 : findIn K (.ref C8) "laying_refusal" = some (some (.ref f58)))
 (h358 : isFn K (.ref f58) = true)
 (h359 : K.lookup f58 = some ⟨c58, o58, .func (fnOf "laying_refusal" "Desk.laying_refusal" (defArgs s_Desk_laying_refusal) (defBody s_Desk_laying_refusal) (defScope s_Desk_laying_refusal) .none v58 d58 p58 n58 e58 t58), s58⟩)
 (h360 : codeIn K e58 "Desk.laying_refusal" = true)
 (h361 : keepIn K (.ref f58) = true)
 (h362 : findIn K (.ref C8) "answer_lay" = some (some (.ref f59)))
 (h363 : isFn K (.ref f59) = true)
 (h364 : K.lookup f59 = some ⟨c59, o59, .func (fnOf "answer_lay" "Desk.answer_lay" (defArgs s_Desk_answer_lay) (defBody s_Desk_answer_lay) (defScope s_Desk_answer_lay) .none v59 d59 p59 n59 e59 t59), s59⟩)
 (h365 : codeIn K e59 "Desk.answer_lay" = true)
 (h366 : keepIn K (.ref f59) = true)
 (h367 : findIn K (.ref C8) "answer_groups" = some (some (.ref f60)))
 (h368 : isFn K (.ref f60) = true)
 (h369 : K.lookup f60 = some ⟨c60, o60, .func (fnOf "answer_groups" "Desk.answer_groups" (defArgs s_Desk_answer_groups) (defBody s_Desk_answer_groups) (defScope s_Desk_answer_groups) .none v60 d60 p60 n60 e60 t60), s60⟩)
 (h370 : codeIn K e60 "Desk.answer_groups" = true)
 (h371 : keepIn K (.ref f60) = true)
 (h372 : findIn K (.ref C8) "answer_lines" = some (some (.ref f61)))
 (h373 : isFn K (.ref f61) = true)
 (h374 : K.lookup f61 = some ⟨c61, o61, .func (fnOf "answer_lines" "Desk.answer_lines" (defArgs s_Desk_answer_lines) (defBody s_Desk_answer_lines) (defScope s_Desk_answer_lines) .none v61 d61 p61 n61 e61 t61), s61⟩)
 (h375 : codeIn K e61 "Desk.answer_lines" = true)
 (h376 : keepIn K (.ref f61) = true)
 (h377 : findIn K (.ref C8) "answer_least" = some (some (.ref f62)))
 (h378 : isFn K (.ref f62) = true)
 (h379 : K.lookup f62 = some ⟨c62, o62, .func (fnOf "answer_least" "Desk.answer_least" (defArgs s_Desk_answer_least) (defBody s_Desk_answer_least) (defScope s_Desk_answer_least) .none v62 d62 p62 n62 e62 t62), s62⟩)
 (h380 : codeIn K e62 "Desk.answer_least" = true)
 (h381 : keepIn K (.ref f62) = true)
 (h382 : findIn K (.ref C8) "answer_begin" = some (some (.ref f63)))
 (h383 : isFn K (.ref f63) = true)
 (h384 : K.lookup f63 = some ⟨c63, o63, .func (fnOf "answer_begin" "Desk.answer_begin" (defArgs s_Desk_answer_begin) (defBody s_Desk_answer_begin) (defScope s_Desk_answer_begin) .none v63 d63 p63 n63 e63 t63), s63⟩)
 (h385 : codeIn K e63 "Desk.answer_begin" = true)
 (h386 : keepIn K (.ref f63) = true)
 (h387 : findIn K (.ref C8) "answer_steps" = some (some (.ref f64)))
 (h388 : isFn K (.ref f64) = true)
 (h389 : K.lookup f64 = some ⟨c64, o64, .func (fnOf "answer_steps" "Desk.answer_steps" (defArgs s_Desk_answer_steps) (defBody s_Desk_answer_steps) (defScope s_Desk_answer_steps) .none v64 d64 p64 n64 e64 t64), s64⟩)
 (h390 : codeIn K e64 "Desk.answer_steps" = true)
 (h391 : keepIn K (.ref f64) = true)
 (h392 : findIn K (.ref C8) "answer_look" = some (some (.ref f65)))
 (h393 : isFn K (.ref f65) = true)
 (h394 : K.lookup f65 = some ⟨c65, o65, .func (fnOf "answer_look" "Desk.answer_look" (defArgs s_Desk_answer_look) (defBody s_Desk_answer_look) (defScope s_Desk_answer_look) .none v65 d65 p65 n65 e65 t65), s65⟩)
 (h395 : codeIn K e65 "Desk.answer_look" = true)
 (h396 : keepIn K (.ref f65) = true)
 (h397 : findIn K (.ref C8) "answer_written" = some (some (.ref f66)))
 (h398 : isFn K (.ref f66) = true)
 (h399 : K.lookup f66 = some ⟨c66, o66, .func (fnOf "answer_written" "Desk.answer_written" (defArgs s_Desk_answer_written) (defBody s_Desk_answer_written) (defScope s_Desk_answer_written) .none v66 d66 p66 n66 e66 t66), s66⟩)
 (h400 : codeIn K e66 "Desk.answer_written" = true)
 (h401 : keepIn K (.ref f66) = true)
 (h402 : findIn K (.ref C8) "answer_back" = some (some (.ref f67)))
 (h403 : isFn K (.ref f67) = true)
 (h404 : K.lookup f67 = some ⟨c67, o67, .func (fnOf "answer_back" "Desk.answer_back" (defArgs s_Desk_answer_back) (defBody s_Desk_answer_back) (defScope s_Desk_answer_back) .none v67 d67 p67 n67 e67 t67), s67⟩)
 (h405 : codeIn K e67 "Desk.answer_back" = true)
 (h406 : keepIn K (.ref f67) = true)
 (h407 : nsIn K mainGlobals "TEXT" = some (some (.int 0 u1)))
 (h408 : nsIn K mainGlobals "BLANK" = some (some (.int 1 u2)))
 (h409 : nsIn K mainGlobals "SOFT" = some (some (.int 2 u3)))
 (h410 : nsIn K mainGlobals "LINE" = some (some (.int 3 u4)))
 (h411 : nsIn K mainGlobals "HARD" = some (some (.int 4 u5)))
 (h412 : nsIn K mainGlobals "GAP" = some (some (.int 5 u6)))
 (h413 : nsIn K mainGlobals "ROW" = some (some (.int 6 u7)))
 (h414 : nsIn K mainGlobals "INDENTED" = some (some (.int 7 u8)))
 (h415 : nsIn K mainGlobals "ALIGNED" = some (some (.int 8 u9)))
 (h416 : nsIn K mainGlobals "GROUP" = some (some (.int 9 u10)))
 (h417 : nsIn K mainGlobals "NAMED" = some (some (.int 10 u11)))
 (h418 : nsIn K mainGlobals "BREAK_BYTE" = some (some (.int 10 u12)))
 (h419 : nsIn K mainGlobals "BLANK_BYTE" = some (some (.int 32 u13)))
 (h420 : nsIn K mainGlobals "MOST_PARTS" = some (some (.int 600 u14)))
 (h421 : nsIn K mainGlobals "MOST_DEPTH" = some (some (.int 40 u15)))
 (h422 : nsIn K mainGlobals "MOST_BYTES" = some (some (.int 4000 u16)))
 (h423 : nsIn K mainGlobals "HELD_NOTHING" = some (some (.int 0 u17)))
 (h424 : nsIn K mainGlobals "HELD_BLANK" = some (some (.int 1 u18)))
 (h425 : nsIn K mainGlobals "HELD_BREAK" = some (some (.int 2 u19)))
 (h426 : nsIn K mainGlobals "HELD_EMPTY_LINE" = some (some (.int 3 u20)))
 (h427 : nsIn K mainGlobals "MOST_TEXT" = some (some (.int 1000 u21)))
 (h428 : nsIn K mainGlobals "MOST_INDENT" = some (some (.int 8 u22)))
 (h429 : nsIn K mainGlobals "MOST_OUTER" = some (some (.int 39 u23)))
 (h430 : nsIn K mainGlobals "PUT" = some (some (.int 0 u24)))
 (h431 : nsIn K mainGlobals "DROP" = some (some (.int 1 u25)))
 (h432 : nsIn K mainGlobals "TOLD" = some (some (.int 2 u26)))
 (h433 : nsIn K mainGlobals "SIZE" = some (some (.int 3 u27)))
 (h434 : nsIn K mainGlobals "FLAT" = some (some (.int 4 u28)))
 (h435 : nsIn K mainGlobals "LAY" = some (some (.int 5 u29)))
 (h436 : nsIn K mainGlobals "GROUPS" = some (some (.int 6 u30)))
 (h437 : nsIn K mainGlobals "LINES" = some (some (.int 7 u31)))
 (h438 : nsIn K mainGlobals "LEAST" = some (some (.int 8 u32)))
 (h439 : nsIn K mainGlobals "BEGIN" = some (some (.int 9 u33)))
 (h440 : nsIn K mainGlobals "STEPS" = some (some (.int 10 u34)))
 (h441 : nsIn K mainGlobals "LOOK" = some (some (.int 11 u35)))
 (h442 : nsIn K mainGlobals "WRITTEN" = some (some (.int 12 u36)))
 (h443 : nsIn K mainGlobals "NO_ROW" = some (some (.int (-1) u37)))
 (h444 : nsIn K mainGlobals "NO_DOCUMENT" = some (some (.int (-2) u38)))
 (h445 : nsIn K mainGlobals "NO_WIDTH" = some (some (.int (-3) u39)))
 (h446 : nsIn K mainGlobals "TOO_LARGE" = some (some (.int (-4) u40)))
 (h447 : nsIn K mainGlobals "FULL" = some (some (.int (-5) u41)))
 (h448 : nsIn K mainGlobals "NO_COUNT" = some (some (.int (-6) u42)))
 (h449 : nsIn K mainGlobals "FORCED" = some (some (.int (-7) u43)))
 (h450 : nsIn K mainGlobals "TOO_LONG" = some (some (.int (-8) u44)))
 (h451 : nsIn K mainGlobals "NOTHING_THERE" = some (some (.int (-9) u45)))
 (h452 : nsIn K mainGlobals "MOST_HELD" = some (some (.int 20 u46)))
 (h453 : nsIn K mainGlobals "MOST_WIDTH" = some (some (.int 1000 u47)))
 (h454 : nsIn K mainGlobals "MOST_WRITTEN" = some (some (.int 20000 u48)))
 (h455 : nsIn K mainGlobals "GIVEN" = some (some (.ref g0)))
 (h456 : K.lookup g0 = some { cls := .type "tuple", data := .seq #[.int 0 w0_0, .int 0 w0_1, .int 1 w0_2, .int 1 w0_3, .int 1 w0_4, .int 2 w0_5, .int 2 w0_6, .int 2 w0_7, .int 1 w0_8, .int 2 w0_9, .int 1 w0_10, .int 0 w0_11, .int 0 w0_12, .int 1 w0_13] k0 })
 (h457 : nsIn K mainGlobals "len" = some none)
 (h458 : nsIn K mainGlobals "range" = some none)
 (h459 : nsIn K mainGlobals "reversed" = some none)
 (h460 : nsIn K mainGlobals "sum" = some none)
 (h461 : nsIn K mainGlobals "any" = some none)
 (h462 : nsIn K mainGlobals "all" = some none)
 (h463 : nsIn K mainGlobals "max" = some none)
 (h464 : nsIn K mainGlobals "min" = some none) : R := by
 have efa : f14 = fa := Value.ref.inj (Option.some.inj ((mg_of X G h138).symm.trans hfa))
 have F1 := fun_mk (st := s_numbers_of) h87 h88 h89
 have F2 := fun_mk (st := s_count_inner) h91 h92 h93
 have F3 := fun_mk (st := s_count_parts) h95 h96 h97
 have F4 := fun_mk (st := s_spell_out) h99 h100 h101
 have F5 := fun_mk (st := s_make_document) h103 h104 h105
 have F6 := fun_mk (st := s_lay_out) h107 h108 h109
 have F7 := fun_mk (st := s_least_width) h111 h112 h113
 have F8 := fun_mk (st := s_is_text) h115 h116 h117
 have F9 := fun_mk (st := s_number_is_right) h119 h120 h121
 have F10 := fun_mk (st := s_read_numbered) h123 h124 h125
 have F11 := fun_mk (st := s_read_part) h127 h128 h129
 have F12 := fun_mk (st := s_read_parts) h131 h132 h133
 have F13 := fun_mk (st := s_call_length) h135 h136 h137
 have F14 := fun_mk (st := s_answers) h139 h140 h141
 have F15 := fun_mk (st := s_Part___init__) h144 h145 h146
 have F16 := fun_mk (st := s_Document___init__) h149 h150 h151
 have F17 := fun_mk (st := s_Document_measure) h154 h155 h156
 have F18 := fun_mk (st := s_Document_inner_places) h159 h160 h161
 have F19 := fun_mk (st := s_Document_count_bytes) h164 h165 h166
 have F20 := fun_mk (st := s_Document_count_groups) h169 h170 h171
 have F21 := fun_mk (st := s_Document_row_numbers) h174 h175 h176
 have F22 := fun_mk (st := s_Line___init__) h179 h180 h181
 have F23 := fun_mk (st := s_Lines___init__) h184 h185 h186
 have F24 := fun_mk (st := s_Lines_take_flat_break) h189 h190 h191
 have F25 := fun_mk (st := s_Lines_take_text) h194 h195 h196
 have F26 := fun_mk (st := s_Lines_greatest_length) h199 h200 h201
 have F27 := fun_mk (st := s_Lines_told_numbers) h204 h205 h206
 have F28 := fun_mk (st := s_Pen___init__) h209 h210 h211
 have F29 := fun_mk (st := s_Pen_another) h214 h215 h216
 have F30 := fun_mk (st := s_Pen_hold) h219 h220 h221
 have F31 := fun_mk (st := s_Pen_take_blank) h224 h225 h226
 have F32 := fun_mk (st := s_Pen_take_break) h229 h230 h231
 have F33 := fun_mk (st := s_Pen_take_gap) h234 h235 h236
 have F34 := fun_mk (st := s_Pen_take_text) h239 h240 h241
 have F35 := fun_mk (st := s_Pen_text_column) h244 h245 h246
 have F36 := fun_mk (st := s_Pen_held_breaks) h249 h250 h251
 have F37 := fun_mk (st := s_Pen_held_bytes) h254 h255 h256
 have F38 := fun_mk (st := s_Command___init__) h259 h260 h261
 have F39 := fun_mk (st := s_Laying___init__) h264 h265 h266
 have F40 := fun_mk (st := s_Laying_finish) h269 h270 h271
 have F41 := fun_mk (st := s_Laying_advance) h274 h275 h276
 have F42 := fun_mk (st := s_Laying_tell_first) h279 h280 h281
 have F43 := fun_mk (st := s_Laying_step) h284 h285 h286
 have F44 := fun_mk (st := s_Laying_write) h289 h290 h291
 have F45 := fun_mk (st := s_Laying_step_mark) h294 h295 h296
 have F46 := fun_mk (st := s_Laying_step_group) h299 h300 h301
 have F47 := fun_mk (st := s_Laying_go_inside) h304 h305 h306
 have F48 := fun_mk (st := s_Laying_fits) h309 h310 h311
 have F49 := fun_mk (st := s_Laying_find_reach) h314 h315 h316
 have F50 := fun_mk (st := s_Desk___init__) h319 h320 h321
 have F51 := fun_mk (st := s_Desk_answer) h324 h325 h326
 have F52 := fun_mk (st := s_Desk_answer_put) h329 h330 h331
 have F53 := fun_mk (st := s_Desk_answer_drop) h334 h335 h336
 have F54 := fun_mk (st := s_Desk_holds) h339 h340 h341
 have F55 := fun_mk (st := s_Desk_answer_told) h344 h345 h346
 have F56 := fun_mk (st := s_Desk_answer_size) h349 h350 h351
 have F57 := fun_mk (st := s_Desk_answer_flat) h354 h355 h356
 have F58 := fun_mk (st := s_Desk_laying_refusal) h359 h360 h361
 have F59 := fun_mk (st := s_Desk_answer_lay) h364 h365 h366
 have F60 := fun_mk (st := s_Desk_answer_groups) h369 h370 h371
 have F61 := fun_mk (st := s_Desk_answer_lines) h374 h375 h376
 have F62 := fun_mk (st := s_Desk_answer_least) h379 h380 h381
 have F63 := fun_mk (st := s_Desk_answer_begin) h384 h385 h386
 have F64 := fun_mk (st := s_Desk_answer_steps) h389 h390 h391
 have F65 := fun_mk (st := s_Desk_answer_look) h394 h395 h396
 have F66 := fun_mk (st := s_Desk_answer_written) h399 h400 h401
 have F67 := fun_mk (st := s_Desk_answer_back) h404 h405 h406
 refine kk { C_Part := C1, C_Document := C2, C_Line := C3, C_Lines := C4, C_Pen := C5, C_Command := C6, C_Laying := C7, C_Desk := C8, f_numbers_of := f1, fd_numbers_of := fdOf F1, f_count_inner := f2, fd_count_inner := fdOf F2, f_count_parts := f3, fd_count_parts := fdOf F3, f_spell_out := f4, fd_spell_out := fdOf F4, f_make_document := f5, fd_make_document := fdOf F5, f_lay_out := f6, fd_lay_out := fdOf F6, f_least_width := f7, fd_least_width := fdOf F7, f_is_text := f8, fd_is_text := fdOf F8, f_number_is_right := f9, fd_number_is_right := fdOf F9, f_read_numbered := f10, fd_read_numbered := fdOf F10, f_read_part := f11, fd_read_part := fdOf F11, f_read_parts := f12, fd_read_parts := fdOf F12, f_call_length := f13, fd_call_length := fdOf F13, f_answers := f14, fd_answers := fdOf F14, f_Part___init__ := f15, fd_Part___init__ := fdOf F15, f_Document___init__ := f16, fd_Document___init__ := fdOf F16, f_Document_measure := f17, fd_Document_measure := fdOf F17, f_Document_inner_places := f18, fd_Document_inner_places := fdOf F18, f_Document_count_bytes := f19, fd_Document_count_bytes := fdOf F19, f_Document_count_groups := f20, fd_Document_count_groups := fdOf F20, f_Document_row_numbers := f21, fd_Document_row_numbers := fdOf F21, f_Line___init__ := f22, fd_Line___init__ := fdOf F22, f_Lines___init__ := f23, fd_Lines___init__ := fdOf F23, f_Lines_take_flat_break := f24, fd_Lines_take_flat_break := fdOf F24, f_Lines_take_text := f25, fd_Lines_take_text := fdOf F25, f_Lines_greatest_length := f26, fd_Lines_greatest_length := fdOf F26, f_Lines_told_numbers := f27, fd_Lines_told_numbers := fdOf F27, f_Pen___init__ := f28, fd_Pen___init__ := fdOf F28, f_Pen_another := f29, fd_Pen_another := fdOf F29, f_Pen_hold := f30, fd_Pen_hold := fdOf F30, f_Pen_take_blank := f31, fd_Pen_take_blank := fdOf F31, f_Pen_take_break := f32, fd_Pen_take_break := fdOf F32, f_Pen_take_gap := f33, fd_Pen_take_gap := fdOf F33, f_Pen_take_text := f34, fd_Pen_take_text := fdOf F34, f_Pen_text_column := f35, fd_Pen_text_column := fdOf F35, f_Pen_held_breaks := f36, fd_Pen_held_breaks := fdOf F36, f_Pen_held_bytes := f37, fd_Pen_held_bytes := fdOf F37, f_Command___init__ := f38, fd_Command___init__ := fdOf F38, f_Laying___init__ := f39, fd_Laying___init__ := fdOf F39, f_Laying_finish := f40, fd_Laying_finish := fdOf F40, f_Laying_advance := f41, fd_Laying_advance := fdOf F41, f_Laying_tell_first := f42, fd_Laying_tell_first := fdOf F42, f_Laying_step := f43, fd_Laying_step := fdOf F43, f_Laying_write := f44, fd_Laying_write := fdOf F44, f_Laying_step_mark := f45, fd_Laying_step_mark := fdOf F45, f_Laying_step_group := f46, fd_Laying_step_group := fdOf F46, f_Laying_go_inside := f47, fd_Laying_go_inside := fdOf F47, f_Laying_fits := f48, fd_Laying_fits := fdOf F48, f_Laying_find_reach := f49, fd_Laying_find_reach := fdOf F49, f_Desk___init__ := f50, fd_Desk___init__ := fdOf F50, f_Desk_answer := f51, fd_Desk_answer := fdOf F51, f_Desk_answer_put := f52, fd_Desk_answer_put := fdOf F52, f_Desk_answer_drop := f53, fd_Desk_answer_drop := fdOf F53, f_Desk_holds := f54, fd_Desk_holds := fdOf F54, f_Desk_answer_told := f55, fd_Desk_answer_told := fdOf F55, f_Desk_answer_size := f56, fd_Desk_answer_size := fdOf F56, f_Desk_answer_flat := f57, fd_Desk_answer_flat := fdOf F57, f_Desk_laying_refusal := f58, fd_Desk_laying_refusal := fdOf F58, f_Desk_answer_lay := f59, fd_Desk_answer_lay := fdOf F59, f_Desk_answer_groups := f60, fd_Desk_answer_groups := fdOf F60, f_Desk_answer_lines := f61, fd_Desk_answer_lines := fdOf F61, f_Desk_answer_least := f62, fd_Desk_answer_least := fdOf F62, f_Desk_answer_begin := f63, fd_Desk_answer_begin := fdOf F63, f_Desk_answer_steps := f64, fd_Desk_answer_steps := fdOf F64, f_Desk_answer_look := f65, fd_Desk_answer_look := fdOf F65, f_Desk_answer_written := f66, fd_Desk_answer_written := fdOf F66, f_Desk_answer_back := f67, fd_Desk_answer_back := fdOf F67, g_GIVEN := g0 } ?_ efa
 exact { cl_Part := ⟨h2, h3, h4, h5⟩, mg_Part := mg_of X G h1, k_Part := ⟨h6, h142, h143, h7⟩, n_Part_kind := h8, n_Part_number := h9, n_Part_text := h10, cl_Document := ⟨h12, h13, h14, h15⟩, mg_Document := mg_of X G h11, k_Document := ⟨h16, h147, h148, h17⟩, n_Document_parts := h18, n_Document_spans := h19, n_Document_depths := h20, n_Document_forced := h21, cl_Line := ⟨h23, h24, h25, h26⟩, mg_Line := mg_of X G h22, k_Line := ⟨h27, h177, h178, h28⟩, n_Line_indent := h29, n_Line_length := h30, n_Line_flat_breaks := h31, cl_Lines := ⟨h33, h34, h35, h36⟩, mg_Lines := mg_of X G h32, k_Lines := ⟨h37, h182, h183, h38⟩, n_Lines_found := h39, n_Lines_waiting := h40, cl_Pen := ⟨h42, h43, h44, h45⟩, mg_Pen := mg_of X G h41, k_Pen := ⟨h46, h207, h208, h47⟩, n_Pen_column := h48, n_Pen_held := h49, n_Pen_held_indent := h50, cl_Command := ⟨h52, h53, h54, h55⟩, mg_Command := mg_of X G h51, k_Command := ⟨h56, h257, h258, h57⟩, n_Command_place := h58, n_Command_indent := h59, n_Command_flat := h60, cl_Laying := ⟨h62, h63, h64, h65⟩, mg_Laying := mg_of X G h61, k_Laying := ⟨h66, h262, h263, h67⟩, n_Laying_document := h68, n_Laying_width := h69, n_Laying_pen := h70, n_Laying_written := h71, n_Laying_lines := h72, n_Laying_flat_groups := h73, n_Laying_greatest_reach := h74, n_Laying_taken := h75, n_Laying_commands := h76, cl_Desk := ⟨h78, h79, h80, h81⟩, mg_Desk := mg_of X G h77, k_Desk := ⟨h82, h317, h318, h83⟩, n_Desk_documents := h84, n_Desk_laying := h85, F_numbers_of := F1, b_numbers_of := F1.binds fun _ _ _ _ _ _ us hl => match us, hl with | [_], _ => rfl, mg_numbers_of := mg_of X G h86, kp_numbers_of := h89, F_count_inner := F2, b_count_inner := F2.binds fun _ _ _ _ _ _ us hl => match us, hl with | [_], _ => rfl, mg_count_inner := mg_of X G h90, kp_count_inner := h93, F_count_parts := F3, b_count_parts := F3.binds fun _ _ _ _ _ _ us hl => match us, hl with | [_, _], _ => rfl, mg_count_parts := mg_of X G h94, kp_count_parts := h97, F_spell_out := F4, b_spell_out := F4.binds fun _ _ _ _ _ _ us hl => match us, hl with | [_, _], _ => rfl, mg_spell_out := mg_of X G h98, kp_spell_out := h101, F_make_document := F5, b_make_document := F5.binds fun _ _ _ _ _ _ us hl => match us, hl with | [_, _], _ => rfl, mg_make_document := mg_of X G h102, kp_make_document := h105, F_lay_out := F6, b_lay_out := F6.binds fun _ _ _ _ _ _ us hl => match us, hl with | [_, _, _], _ => rfl, mg_lay_out := mg_of X G h106, kp_lay_out := h109, F_least_width := F7, b_least_width := F7.binds fun _ _ _ _ _ _ us hl => match us, hl with | [_], _ => rfl, mg_least_width := mg_of X G h110, kp_least_width := h113, F_is_text := F8, b_is_text := F8.binds fun _ _ _ _ _ _ us hl => match us, hl with | [_], _ => rfl, mg_is_text := mg_of X G h114, kp_is_text := h117, F_number_is_right := F9, b_number_is_right := F9.binds fun _ _ _ _ _ _ us hl => match us, hl with | [_, _, _], _ => rfl, mg_number_is_right := mg_of X G h118, kp_number_is_right := h121, F_read_numbered := F10, b_read_numbered := F10.binds fun _ _ _ _ _ _ us hl => match us, hl with | [_, _, _], _ => rfl, mg_read_numbered := mg_of X G h122, kp_read_numbered := h125, F_read_part := F11, b_read_part := F11.binds fun _ _ _ _ _ _ us hl => match us, hl with | [_, _, _], _ => rfl, mg_read_part := mg_of X G h126, kp_read_part := h129, F_read_parts := F12, b_read_parts := F12.binds fun _ _ _ _ _ _ us hl => match us, hl with | [_, _], _ => rfl, mg_read_parts := mg_of X G h130, kp_read_parts := h133, F_call_length := F13, b_call_length := F13.binds fun _ _ _ _ _ _ us hl => match us, hl with | [_, _], _ => rfl, mg_call_length := mg_of X G h134, kp_call_length := h137, F_answers := F14, b_answers := F14.binds fun _ _ _ _ _ _ us hl => match us, hl with | [_], _ => rfl, mg_answers := mg_of X G h138, kp_answers := h141, F_Part___init__ := F15, b_Part___init__ := F15.binds fun _ _ _ _ _ _ us hl => match us, hl with | [_, _, _, _], _ => rfl, F_Document___init__ := F16, b_Document___init__ := F16.binds fun _ _ _ _ _ _ us hl => match us, hl with | [_, _], _ => rfl, F_Document_measure := F17, b_Document_measure := F17.binds fun _ _ _ _ _ _ us hl => match us, hl with | [_, _], _ => rfl, m_Document_measure := ⟨h152, h153, h156⟩, F_Document_inner_places := F18, b_Document_inner_places := F18.binds fun _ _ _ _ _ _ us hl => match us, hl with | [_, _], _ => rfl, m_Document_inner_places := ⟨h157, h158, h161⟩, F_Document_count_bytes := F19, b_Document_count_bytes := F19.binds fun _ _ _ _ _ _ us hl => match us, hl with | [_], _ => rfl, m_Document_count_bytes := ⟨h162, h163, h166⟩, F_Document_count_groups := F20, b_Document_count_groups := F20.binds fun _ _ _ _ _ _ us hl => match us, hl with | [_], _ => rfl, m_Document_count_groups := ⟨h167, h168, h171⟩, F_Document_row_numbers := F21, b_Document_row_numbers := F21.binds fun _ _ _ _ _ _ us hl => match us, hl with | [_], _ => rfl, m_Document_row_numbers := ⟨h172, h173, h176⟩, F_Line___init__ := F22, b_Line___init__ := F22.binds fun _ _ _ _ _ _ us hl => match us, hl with | [_, _], _ => rfl, F_Lines___init__ := F23, b_Lines___init__ := F23.binds fun _ _ _ _ _ _ us hl => match us, hl with | [_], _ => rfl, F_Lines_take_flat_break := F24, b_Lines_take_flat_break := F24.binds fun _ _ _ _ _ _ us hl => match us, hl with | [_], _ => rfl, m_Lines_take_flat_break := ⟨h187, h188, h191⟩, F_Lines_take_text := F25, b_Lines_take_text := F25.binds fun _ _ _ _ _ _ us hl => match us, hl with | [_, _, _, _], _ => rfl, m_Lines_take_text := ⟨h192, h193, h196⟩, F_Lines_greatest_length := F26, b_Lines_greatest_length := F26.binds fun _ _ _ _ _ _ us hl => match us, hl with | [_], _ => rfl, m_Lines_greatest_length := ⟨h197, h198, h201⟩, F_Lines_told_numbers := F27, b_Lines_told_numbers := F27.binds fun _ _ _ _ _ _ us hl => match us, hl with | [_], _ => rfl, m_Lines_told_numbers := ⟨h202, h203, h206⟩, F_Pen___init__ := F28, b_Pen___init__ := F28.binds fun _ _ _ _ _ _ us hl => match us, hl with | [_, _, _, _], _ => rfl, F_Pen_another := F29, b_Pen_another := F29.binds fun _ _ _ _ _ _ us hl => match us, hl with | [_], _ => rfl, m_Pen_another := ⟨h212, h213, h216⟩, F_Pen_hold := F30, b_Pen_hold := F30.binds fun _ _ _ _ _ _ us hl => match us, hl with | [_, _, _], _ => rfl, m_Pen_hold := ⟨h217, h218, h221⟩, F_Pen_take_blank := F31, b_Pen_take_blank := F31.binds fun _ _ _ _ _ _ us hl => match us, hl with | [_], _ => rfl, m_Pen_take_blank := ⟨h222, h223, h226⟩, F_Pen_take_break := F32, b_Pen_take_break := F32.binds fun _ _ _ _ _ _ us hl => match us, hl with | [_, _], _ => rfl, m_Pen_take_break := ⟨h227, h228, h231⟩, F_Pen_take_gap := F33, b_Pen_take_gap := F33.binds fun _ _ _ _ _ _ us hl => match us, hl with | [_, _], _ => rfl, m_Pen_take_gap := ⟨h232, h233, h236⟩, F_Pen_take_text := F34, b_Pen_take_text := F34.binds fun _ _ _ _ _ _ us hl => match us, hl with | [_, _], _ => rfl, m_Pen_take_text := ⟨h237, h238, h241⟩, F_Pen_text_column := F35, b_Pen_text_column := F35.binds fun _ _ _ _ _ _ us hl => match us, hl with | [_], _ => rfl, m_Pen_text_column := ⟨h242, h243, h246⟩, F_Pen_held_breaks := F36, b_Pen_held_breaks := F36.binds fun _ _ _ _ _ _ us hl => match us, hl with | [_], _ => rfl, m_Pen_held_breaks := ⟨h247, h248, h251⟩, F_Pen_held_bytes := F37, b_Pen_held_bytes := F37.binds fun _ _ _ _ _ _ us hl => match us, hl with | [_], _ => rfl, m_Pen_held_bytes := ⟨h252, h253, h256⟩, F_Command___init__ := F38, b_Command___init__ := F38.binds fun _ _ _ _ _ _ us hl => match us, hl with | [_, _, _, _], _ => rfl, F_Laying___init__ := F39, b_Laying___init__ := F39.binds fun _ _ _ _ _ _ us hl => match us, hl with | [_, _, _, _], _ => rfl, F_Laying_finish := F40, b_Laying_finish := F40.binds fun _ _ _ _ _ _ us hl => match us, hl with | [_], _ => rfl, m_Laying_finish := ⟨h267, h268, h271⟩, F_Laying_advance := F41, b_Laying_advance := F41.binds fun _ _ _ _ _ _ us hl => match us, hl with | [_, _], _ => rfl, m_Laying_advance := ⟨h272, h273, h276⟩, F_Laying_tell_first := F42, b_Laying_tell_first := F42.binds fun _ _ _ _ _ _ us hl => match us, hl with | [_], _ => rfl, m_Laying_tell_first := ⟨h277, h278, h281⟩, F_Laying_step := F43, b_Laying_step := F43.binds fun _ _ _ _ _ _ us hl => match us, hl with | [_], _ => rfl, m_Laying_step := ⟨h282, h283, h286⟩, F_Laying_write := F44, b_Laying_write := F44.binds fun _ _ _ _ _ _ us hl => match us, hl with | [_, _], _ => rfl, m_Laying_write := ⟨h287, h288, h291⟩, F_Laying_step_mark := F45, b_Laying_step_mark := F45.binds fun _ _ _ _ _ _ us hl => match us, hl with | [_, _, _], _ => rfl, m_Laying_step_mark := ⟨h292, h293, h296⟩, F_Laying_step_group := F46, b_Laying_step_group := F46.binds fun _ _ _ _ _ _ us hl => match us, hl with | [_, _], _ => rfl, m_Laying_step_group := ⟨h297, h298, h301⟩, F_Laying_go_inside := F47, b_Laying_go_inside := F47.binds fun _ _ _ _ _ _ us hl => match us, hl with | [_, _, _, _], _ => rfl, m_Laying_go_inside := ⟨h302, h303, h306⟩, F_Laying_fits := F48, b_Laying_fits := F48.binds fun _ _ _ _ _ _ us hl => match us, hl with | [_, _], _ => rfl, m_Laying_fits := ⟨h307, h308, h311⟩, F_Laying_find_reach := F49, b_Laying_find_reach := F49.binds fun _ _ _ _ _ _ us hl => match us, hl with | [_, _], _ => rfl, m_Laying_find_reach := ⟨h312, h313, h316⟩, F_Desk___init__ := F50, b_Desk___init__ := F50.binds fun _ _ _ _ _ _ us hl => match us, hl with | [_], _ => rfl, F_Desk_answer := F51, b_Desk_answer := F51.binds fun _ _ _ _ _ _ us hl => match us, hl with | [_, _], _ => rfl, m_Desk_answer := ⟨h322, h323, h326⟩, F_Desk_answer_put := F52, b_Desk_answer_put := F52.binds fun _ _ _ _ _ _ us hl => match us, hl with | [_, _], _ => rfl, m_Desk_answer_put := ⟨h327, h328, h331⟩, F_Desk_answer_drop := F53, b_Desk_answer_drop := F53.binds fun _ _ _ _ _ _ us hl => match us, hl with | [_], _ => rfl, m_Desk_answer_drop := ⟨h332, h333, h336⟩, F_Desk_holds := F54, b_Desk_holds := F54.binds fun _ _ _ _ _ _ us hl => match us, hl with | [_, _], _ => rfl, m_Desk_holds := ⟨h337, h338, h341⟩, F_Desk_answer_told := F55, b_Desk_answer_told := F55.binds fun _ _ _ _ _ _ us hl => match us, hl with | [_, _], _ => rfl, m_Desk_answer_told := ⟨h342, h343, h346⟩, F_Desk_answer_size := F56, b_Desk_answer_size := F56.binds fun _ _ _ _ _ _ us hl => match us, hl with | [_, _], _ => rfl, m_Desk_answer_size := ⟨h347, h348, h351⟩, F_Desk_answer_flat := F57, b_Desk_answer_flat := F57.binds fun _ _ _ _ _ _ us hl => match us, hl with | [_, _], _ => rfl, m_Desk_answer_flat := ⟨h352, h353, h356⟩, F_Desk_laying_refusal := F58, b_Desk_laying_refusal := F58.binds fun _ _ _ _ _ _ us hl => match us, hl with | [_, _, _], _ => rfl, m_Desk_laying_refusal := ⟨h357, h358, h361⟩, F_Desk_answer_lay := F59, b_Desk_answer_lay := F59.binds fun _ _ _ _ _ _ us hl => match us, hl with | [_, _, _], _ => rfl, m_Desk_answer_lay := ⟨h362, h363, h366⟩, F_Desk_answer_groups := F60, b_Desk_answer_groups := F60.binds fun _ _ _ _ _ _ us hl => match us, hl with | [_, _, _], _ => rfl, m_Desk_answer_groups := ⟨h367, h368, h371⟩, F_Desk_answer_lines := F61, b_Desk_answer_lines := F61.binds fun _ _ _ _ _ _ us hl => match us, hl with | [_, _, _], _ => rfl, m_Desk_answer_lines := ⟨h372, h373, h376⟩, F_Desk_answer_least := F62, b_Desk_answer_least := F62.binds fun _ _ _ _ _ _ us hl => match us, hl with | [_, _], _ => rfl, m_Desk_answer_least := ⟨h377, h378, h381⟩, F_Desk_answer_begin := F63, b_Desk_answer_begin := F63.binds fun _ _ _ _ _ _ us hl => match us, hl with | [_, _, _], _ => rfl, m_Desk_answer_begin := ⟨h382, h383, h386⟩, F_Desk_answer_steps := F64, b_Desk_answer_steps := F64.binds fun _ _ _ _ _ _ us hl => match us, hl with | [_, _], _ => rfl, m_Desk_answer_steps := ⟨h387, h388, h391⟩, F_Desk_answer_look := F65, b_Desk_answer_look := F65.binds fun _ _ _ _ _ _ us hl => match us, hl with | [_], _ => rfl, m_Desk_answer_look := ⟨h392, h393, h396⟩, F_Desk_answer_written := F66, b_Desk_answer_written := F66.binds fun _ _ _ _ _ _ us hl => match us, hl with | [_], _ => rfl, m_Desk_answer_written := ⟨h397, h398, h401⟩, F_Desk_answer_back := F67, b_Desk_answer_back := F67.binds fun _ _ _ _ _ _ us hl => match us, hl with | [_, _], _ => rfl, m_Desk_answer_back := ⟨h402, h403, h406⟩, c_TEXT := ⟨_, mg_of X G h407⟩, c_BLANK := ⟨_, mg_of X G h408⟩, c_SOFT := ⟨_, mg_of X G h409⟩, c_LINE := ⟨_, mg_of X G h410⟩, c_HARD := ⟨_, mg_of X G h411⟩, c_GAP := ⟨_, mg_of X G h412⟩, c_ROW := ⟨_, mg_of X G h413⟩, c_INDENTED := ⟨_, mg_of X G h414⟩, c_ALIGNED := ⟨_, mg_of X G h415⟩, c_GROUP := ⟨_, mg_of X G h416⟩, c_NAMED := ⟨_, mg_of X G h417⟩, c_BREAK_BYTE := ⟨_, mg_of X G h418⟩, c_BLANK_BYTE := ⟨_, mg_of X G h419⟩, c_MOST_PARTS := ⟨_, mg_of X G h420⟩, c_MOST_DEPTH := ⟨_, mg_of X G h421⟩, c_MOST_BYTES := ⟨_, mg_of X G h422⟩, c_HELD_NOTHING := ⟨_, mg_of X G h423⟩, c_HELD_BLANK := ⟨_, mg_of X G h424⟩, c_HELD_BREAK := ⟨_, mg_of X G h425⟩, c_HELD_EMPTY_LINE := ⟨_, mg_of X G h426⟩, c_MOST_TEXT := ⟨_, mg_of X G h427⟩, c_MOST_INDENT := ⟨_, mg_of X G h428⟩, c_MOST_OUTER := ⟨_, mg_of X G h429⟩, c_PUT := ⟨_, mg_of X G h430⟩, c_DROP := ⟨_, mg_of X G h431⟩, c_TOLD := ⟨_, mg_of X G h432⟩, c_SIZE := ⟨_, mg_of X G h433⟩, c_FLAT := ⟨_, mg_of X G h434⟩, c_LAY := ⟨_, mg_of X G h435⟩, c_GROUPS := ⟨_, mg_of X G h436⟩, c_LINES := ⟨_, mg_of X G h437⟩, c_LEAST := ⟨_, mg_of X G h438⟩, c_BEGIN := ⟨_, mg_of X G h439⟩, c_STEPS := ⟨_, mg_of X G h440⟩, c_LOOK := ⟨_, mg_of X G h441⟩, c_WRITTEN := ⟨_, mg_of X G h442⟩, c_NO_ROW := ⟨_, mg_of X G h443⟩, c_NO_DOCUMENT := ⟨_, mg_of X G h444⟩, c_NO_WIDTH := ⟨_, mg_of X G h445⟩, c_TOO_LARGE := ⟨_, mg_of X G h446⟩, c_FULL := ⟨_, mg_of X G h447⟩, c_NO_COUNT := ⟨_, mg_of X G h448⟩, c_FORCED := ⟨_, mg_of X G h449⟩, c_TOO_LONG := ⟨_, mg_of X G h450⟩, c_NOTHING_THERE := ⟨_, mg_of X G h451⟩, c_MOST_HELD := ⟨_, mg_of X G h452⟩, c_MOST_WIDTH := ⟨_, mg_of X G h453⟩, c_MOST_WRITTEN := ⟨_, mg_of X G h454⟩, c_GIVEN := mg_of X G h455, t_GIVEN := fun _ => .inr ⟨_, _, _, h456, rfl, rfl, (show 14 ≤ sizeLine by decide), (.cons ⟨_, rfl⟩ (.cons ⟨_, rfl⟩ (.cons ⟨_, rfl⟩ (.cons ⟨_, rfl⟩ (.cons ⟨_, rfl⟩ (.cons ⟨_, rfl⟩ (.cons ⟨_, rfl⟩ (.cons ⟨_, rfl⟩ (.cons ⟨_, rfl⟩ (.cons ⟨_, rfl⟩ (.cons ⟨_, rfl⟩ (.cons ⟨_, rfl⟩ (.cons ⟨_, rfl⟩ (.cons ⟨_, rfl⟩ .nil))))))))))))))⟩, b_len := mg_none_of X G h457, b_range := mg_none_of X G h458, b_reversed := mg_none_of X G h459, b_sum := mg_none_of X G h460, b_any := mg_none_of X G h461, b_all := mg_none_of X G h462, b_max := mg_none_of X G h463, b_min := mg_none_of X G h464 }
end WL
set_option linter.all false
namespace PySem.W.Fast
def tw1297275172089839382:=0
def tw4376735868047470101:=0
def tw10001813019910756857:=0
def tw5070185071312683471:=0
def tw17345556686842328904:=0
def tw14240868425853172019:=0
def tw11230566199854614626:=0
def tw18243110467531022889:=0
def tw13722390583320552110:=0
def tw15229538709896458906:=0
def tw5346091401848708950:=0
def tw3415540339467729824:=0
def tw5523675759148625115:=0
def tw1957096058550061078:=0
def tw16077914861050744339:=0
def tw2181118611180792790:=0
def tw7891194076988968195:=0
def tw269239989047633581:=0
def tw2023789862481812072:=0
def tw2783205966415006378:=0
def tw4433555512968956725:=0
def tw7959436257920272944:=0
def tw5681641550449024820:=0
def tw8679727797738660903:=0
def tw15762176056963564304:=0
def tw16975491914491822631:=0
def tw2046722160110066592:=0
def tw1690011248952771558:=0
def tw2424451001772541646:=0
def tw12225670544813840663:=0
def tw13900829681563433004:=0
def tw1475638743291369185:=0
def tw2045835681986646909:=0
def tw4103556172068605575:=0
def tw1221492821030688036:=0
def tw16990231212385136190:=0
def tw10956842434764082909:=0
def tw8057886884521975965:=0
def tw12965198477357204401:=0
def tw16199575217022183849:=0
def tw8176209353719300257:=0
def tw10049458922078211698:=0
def tw1283761180204138091:=0
def tw7863659156902947392:=0
def tw7064233571167835091:=0
def tw7145305877538658780:=0
def tw7763870466450340942:=0
def tw15522416739765183538:=0
def tw10998552937843964504:=0
def tw5993549636965977220:=0
def tw12664575088293929422:=0
def tw12260875465867356027:=0
def tw5897872457740863302:=0
def tw13930115600824579625:=0
def tw18378289616802372805:=0
def tw17625741439967989074:=0
def tw17387393447525776953:=0
def tw16240291236116917154:=0
def tw2831666424136915589:=0
def tw13741268978525968003:=0
def tw4969539482417499322:=0
def tw17241652515160483172:=0
def tw15837577955318097443:=0
def tw4437201687231495450:=0
def tw2323486432504075237:=0
def tw2532813786676238357:=0
def tw16218254953811880630:=0
def tw6633514935604682161:=0
def tw17976824351709874322:=0
def tw11704382227802708441:=0
def tw7670921849591053383:=0
def tw2332618066560579988:=0
def tw9449935339333577924:=0
def tw12793586639866160074:=0
def tw8957024634364667701:=0
def tw14219819510986678516:=0
def tw11796354926762355154:=0
def tw16184904032695415318:=0
def tw12337752703116941030:=0
def tw948728775481473:=0
def tw3656067990066556724:=0
def tw18218987126708192886:=0
def tw4248820148575967428:=0
def tw145668274398242236:=0
def tw1957029667390562047:=0
def tw16786585896970662120:=0
def tw4258619666373779582:=0
def tw6964669640324792364:=0
def tw18075691035415035615:=0
def tw1143252089829131133:=0
def tw229898527659096099:=0
def tw4004451869095389411:=0
def tw3672901841451332043:=0
def tw10806324408518038720:=0
def tw6952945504591839421:=0
def tw4979523748582056164:=0
def tw16628196375670094233:=0
def tw7917601112139691279:=0
def tw14244410005370736239:=0
def tw11427608221830012180:=0
def tw5927088033846621145:=0
def tw4938429158873467671:=0
def tw14215939882292361826:=0
def tw16061905074567060169:=0
def tw15599623257319490921:=0
def tw15161709500241303561:=0
def tw14330317318905586594:=0
def tw937566680582431479:=0
def tw1324476224767723293:=0
def tw7800456503440803568:=0
def tw11910280221212932208:=0
def tw11924674636208992326:=0
def tw17493180956785982371:=0
def tw15811523474646298911:=0
def tw4635458537468615930:=0
def tw14831052562012673222:=0
def tw9282202025813275289:=0
def tw16340729293505260453:=0
def tw12707474938385338621:=0
def tw1779939964770887896:=0
def tw16122288304667301088:=0
def tw11122697191219302561:=0
def tw16074305744259597327:=0
def tw16193097574729901093:=0
def tw15936993556926421920:=0
def tw11945609139670519131:=0
def tw15049046079160317073:=0
def tw12253058773190340786:=0
def tw9164720075589523584:=0
def tw7929741879673214245:=0
def tw15038310451808353557:=0
def tw621162351687513682:=0
def tw13577818598750175892:=0
def tw6171943640948205673:=0
def tw17836713374490066193:=0
def tw3228151866871383214:=0
def tw17530465353234816469:=0
def tw13090516904542064929:=0
def tw1032141781995791174:=0
def tw2580872550538736516:=0
def tw16671400730127974856:=0
def tw5699251622616844193:=0
def tw18140879971094104716:=0
def tw427212916733704796:=0
def tw5807884687497159020:=0
def tw11883065383835263766:=0
def tw3102514919241499876:=0
def tw17287954996929024299:=0
def tw8842254537394785585:=0
def tw853466367997178401:=0
def tw7129729818876875239:=0
def tw16353138823453831904:=0
def tw1367275762016044469:=0
def tw9514979999338468166:=0
def tw15300299028256942482:=0
def tw394812847175505258:=0
def tw9799673707382882239:=0
def tw12775468998965424717:=0
def tw6997083501992504563:=0
def tw2823032079608406437:=0
def tw12783716016136385244:=0
def tw10926736491450309029:=0
def tw4671095674439360992:=0
def tw17805122976152478644:=0
def tw2393159971618019212:=0
def tw5758282878878881975:=0
def tw12409683746803023735:=0
def tw16105942716003499665:=0
def tw675282441424372279:=0
def tw1613706446740051833:=0
def tw16293355473392484959:=0
def tw11246723941201282064:=0
def tw13407152416274474304:=0
def tw3257591986719269359:=0
def tw1267043202038754362:=0
def tw4027963211121107067:=0
def tw5805032568278036025:=0
def tw12521345381383164971:=0
def tw6046170161885061260:=0
def tw8103850179665962287:=0
def tw2791859017902373108:=0
def tw7020675795332780643:=0
def tw10546707401372128571:=0
def tw4742296977943396643:=0
def tw11473192994185528686:=0
def tw2775221560558379764:=0
def tw8672266191369249308:=0
def tw9700524486185401236:=0
def tw16727648276834354499:=0
def tw5004214841086181584:=0
def tw18343282717691213320:=0
def tw12336715589084744604:=0
def tw10692882494100612421:=0
def tw8766291899025181240:=0
def tw16556596036631236302:=0
def tw9937235420313441458:=0
def tw9904324040885894896:=0
def tw8626313383193827083:=0
def tw11678728546135195016:=0
def tw15260975215282669791:=0
def tw3053533236750474731:=0
def tw11890084131811777503:=0
def tw12554887965339969019:=0
def tw9608740863789479308:=0
def tw1456423735065201201:=0
def tw6246944322687736365:=0
def tw11548997910821623511:=0
def tw8483604374419202904:=0
def tw2286172072734148680:=0
def tw2679718311233889379:=0
def tw8205308925206585744:=0
def tw3811842400434606150:=0
def tw6819157481091884664:=0
def tw17225459632706233918:=0
def tw18066765711965503594:=0
def tw17342984401701963682:=0
def tw15380651664252272241:=0
def tw7238664119390922833:=0
def tw3762460269862025628:=0
def tw12373055336362576322:=0
def tw11323775797857630082:=0
def tw3756934994106856006:=0
def tw7603985181848164246:=0
def tw2621191095244525431:=0
def tw15311868103182628568:=0
def tw7316970315801651665:=0
def tw8846987991207098869:=0
def tw1515074273511544905:=0
def tw14927933409586462849:=0
def tw8915395819070936349:=0
def tw14779449262942946318:=0
def tw344210548723448327:=0
def tw5693202307009482070:=0
def tw13146467976201649239:=0
def tw4526169091706858566:=0
def tw6360255851250727126:=0
def tw16077182600549654970:=0
def tw8559370453156739753:=0
def tw11636209548417651013:=0
def tw3330956907797319508:=0
def tw14513993886367137232:=0
def tw7235675727758086199:=0
def tw2252978438794652932:=0
def tw9109770632969603713:=0
def tw8155290984112601215:=0
def tw16356950879957881793:=0
def tw7779558632750650038:=0
def tw10895288059525750787:=0
def tw14815081754353351795:=0
def tw7958305216173139038:=0
def tw7556753066074551898:=0
def tw3426416773974175287:=0
def tw1871633579456842011:=0
def tw11274055399634661711:=0
def tw5756244339605517483:=0
def tw11400036102609919174:=0
def tw9647442915287935868:=0
def tw6530076188987671696:=0
def tw13035848172131074692:=0
def tw15237425644180060879:=0
def tw14977435404923525963:=0
def tw3534040533448967034:=0
def tw17457537712949837801:=0
def tw14751267186269913803:=0
def tw12677809460426890400:=0
def tw9145286248671307584:=0
def tw1244783864107741788:=0
def tw4079315508710488568:=0
def tw5393160468780991105:=0
def tw13966703595712826353:=0
def tw3006126789626062372:=0
def tw3253182426072278610:=0
def tw6946041566394930900:=0
def tw11012229520854851665:=0
def tw14232451773206912324:=0
def tw1995608950478012401:=0
def tw8375758061223425132:=0
def tw15845522877496982381:=0
def tw4007077034811578258:=0
def tw6220275873786498817:=0
def tw12355340186557207720:=0
def tw5467307007277555401:=0
def tw5862885056815805178:=0
def tw4875558749718769464:=0
def tw7955242300982000086:=0
def tw4213153774876509622:=0
def tw17997563462910895287:=0
def tw14757949480469417200:=0
def tw8832399119931420572:=0
def tw15158463365303738441:=0
def tw3635747790745570991:=0
def tw622107573122527257:=0
def tw2454902778631893735:=0
def tw8378782794273878292:=0
def tw16085356354563140125:=0
def tw151573624844114027:=0
def tw18267798466513347018:=0
def tw1542111459493202831:=0
def tw17943919186581654184:=0
def tw9852471492030920110:=0
def tw13249611738212990368:=0
def tw7578665587193672189:=0
def tw11811095390276257845:=0
def tw38799494263445360:=0
def tw5951807223184552233:=0
def tw6781532749879111157:=0
def tw15044998607336165390:=0
def tw6334944012497288911:=0
def tw8721948702845375225:=0
def tw12249702167025738115:=0
def tw10284172822526417662:=0
def tw7287876325945109931:=0
def tw9550549369996026986:=0
def tw16539401543820861687:=0
def tw963666414967234303:=0
def tw13066194574009431123:=0
def tw14445420727347324233:=0
def tw3959438649384597913:=0
def tw16944664923238396592:=0
def tw12354950841183120907:=0
def tw5151998920342134285:=0
def tw5739350261494790867:=0
def tw14576654685151422062:=0
def tw1958581600718916035:=0
def tw10385325339618758095:=0
def tw15246740233140959597:=0
def tw16669690167417035132:=0
def tw11197560646277296047:=0
def tw12115137154279702441:=0
def tw1297236587516926485:=0
def tw17327250663191906936:=0
def tw5167891574175269288:=0
def tw2742870428471635602:=0
def tw5679690223464895228:=0
def tw72046628319026317:=0
def tw981720815406656581:=0
def tw15143629994382339088:=0
def tw17505666131422352739:=0
def tw3575393662019148245:=0
def tw11642049212007855137:=0
def tw5015527914591829614:=0
def tw2979578552911245228:=0
def tw18308545031914746125:=0
def tw12455350434720211356:=0
def tw4533156022413356102:=0
def tw12949031291495089646:=0
def tw9419452271781986345:=0
def tw3640235571889958270:=0
def tw16927824020614326769:=0
def tw10453004000073244436:=0
def tw9877787271875332824:=0
def tw4217000702104876041:=0
def tw16861868993956844025:=0
def tw6817728117167598870:=0
def tw4926022115803088993:=0
def tw6108687239788699158:=0
def tw1012361171299003753:=0
def tw12401992901609566206:=0
def tw10039650804769616046:=0
def tw14412252714205802405:=0
def tw4683517555955025325:=0
def tw7130857522500913706:=0
def tw6798781353188800090:=0
def tw11156338479650743694:=0
def tw15674096961934090581:=0
def tw7389980772044425210:=0
def tw11537728566983266022:=0
def tw11592831482831297142:=0
def tw4253944588093117614:=0
def tw7773306653479957322:=0
def tw16299396697304913389:=0
def tw5946765399215091124:=0
def tw8629775306024610470:=0
def tw2023637125963671044:=0
def tw2227798446995809286:=0
def tw10830098928546000924:=0
def tw3432526729958651771:=0
def tw1446861156891793701:=0
def tw3596200972541279013:=0
def tw587172565629591433:=0
def tw17488305698612611323:=0
def tw10061544922048690208:=0
def tw10694444104834790959:=0
def tw2747478423667563737:=0
def tw16985868286134765228:=0
def tw14477271800491509661:=0
def tw7812558125975916388:=0
def tw16168910174850803442:=0
def tw7973558697827220797:=0
def tw8143004354113849203:=0
def tw10386924335702418547:=0
def tw2836658498002532902:=0
def tw13765014734517319019:=0
def tw14420714587307513060:=0
def tw13676898533071348239:=0
def tw15431954694843733696:=0
def tw5725326152077873071:=0
def tw15562646275986918662:=0
def tw1273492390456307351:=0
def tw2340980189071627597:=0
def tw5747884678918611586:=0
def tw4130947806624051800:=0
def tw8697776840250158479:=0
def tw10213809119137824568:=0
def tw10857574807143505880:=0
def tw5706739272416669480:=0
def tw6565070950437573024:=0
def tw4149254668320909205:=0
def tw7353842687030497067:=0
def tw15534461926680679789:=0
def tw16725172328797198349:=0
def tw5300943722456581003:=0
def tw16271127423435289577:=0
def tw4112183302704409235:=0
def tw13233069180294668491:=0
def tw13647915298039228614:=0
def tw5486698598956963338:=0
def tw9465571656695477860:=0
def tw14547860308341092949:=0
def tw11527721029339664637:=0
def tw13987223802639707835:=0
def tw9901925412658365514:=0
def tw14051337577869744021:=0
def tw536496163096194402:=0
def tw13725291150791030818:=0
def tw10025441473432755332:=0
def tw1131910750252267185:=0
def tw9618496197230345001:=0
def tw3812934178718597535:=0
def tw8601126869854556029:=0
def tw14555319506973831796:=0
def tw3317414810334177709:=0
def tw18038236327354519275:=0
def tw4025799504177751548:=0
def tw1189718421801614884:=0
def tw5163299448839985192:=0
def tw6296115684061798732:=0
def tw18104340835196508211:=0
def tw7841027031274231234:=0
def tw13247983065358134914:=0
def tw10203769721314426885:=0
def tw6229422359894333506:=0
def tw16669233529873129904:=0
def tw8584954784637636241:=0
def tw13263681568110928586:=0
def tw11887684371825257978:=0
def tw6365145741456108692:=0
def tw5612827582166086772:=0
def tw13470884892401872523:=0
def tw1776460042897849959:=0
def tw11653563934659891086:=0
def tw7361452806766861389:=0
def tw9749759375558494009:=0
def tw10904168414163467965:=0
def tw15959388552767392399:=0
def tw6665857359186965080:=0
def tw5961497111194924458:=0
def tw2871294614883057629:=0
def tw17749087268954753807:=0
def tw6021419656726879116:=0
def tw1061399803620828625:=0
def tw155899017245985095:=0
def tw7817960118718442078:=0
def tw14984926237272321716:=0
def tw17845651357842899524:=0
def tw2046803110908892888:=0
def tw17208785074358879020:=0
def tw17826620518819317984:=0
def tw12050066014681946271:=0
def tw2766706575815818460:=0
def tw1103420823520632918:=0
def tw9302046596617527103:=0
def tw7178146214022902017:=0
def tw3420867838931927128:=0
def tw1493849960440454646:=0
def tw16425411618761983719:=0
def tw3224066645146370769:=0
def tw12227076756212379930:=0
def tw4608814171555643946:=0
def tw15567345918697898025:=0
def tw13229586443438960344:=0
def tw15975252325384961705:=0
def tw8897211824975289834:=0
def tw8062155006873463733:=0
def tw7691513320259420175:=0
def tw3302450463395813572:=0
def tw14863173329671899953:=0
def tw12748327571140686787:=0
def tw1377714538122326414:=0
def tw2054120480052962804:=0
def tw16553777299483401083:=0
def tw15177241605695007910:=0
def tw379093056207233473:=0
def tw4431974175488577954:=0
def tw17695217044076245856:=0
def tw10308334719124616:=0
def tw9457673461731428854:=0
def tw2856860192925665508:=0
def tw11125217626870658601:=0
def tw3133172995312172041:=0
def tw12836168450625531787:=0
def tw17996790771771964898:=0
def tw1683786432275085454:=0
def tw14803184076307389359:=0
def tw467609878287133978:=0
def tw14216781307766017680:=0
def tw3356912617340399252:=0
def tw17584236675952347414:=0
def tw6515547614822518281:=0
def tw2307203043255071695:=0
def tw11058801803542025061:=0
def tw8316632487915445397:=0
def tw16505095529944687615:=0
def tw6104592677276143198:=0
def tw12104930835643056413:=0
def tw9551291080618221756:=0
def tw8022317021336265296:=0
def tw5084079382781384245:=0
def tw15894990097484278830:=0
def tw5509409943854654712:=0
def tw14043526919324558663:=0
def tw16198017611599258672:=0
def tw14494729255462510877:=0
def tw15349443408377802895:=0
def tw14997273583606549730:=0
def tw3494135563051246581:=0
def tw9548061207194946315:=0
def tw14676538063369559054:=0
def tw12460445529916345736:=0
def tw10310981755830305175:=0
def tw13292793544113754998:=0
def tw10149317372556504141:=0
def tw8598806892597716736:=0
def tw11400760467295911697:=0
def tw8228149660806193322:=0
def tw1727520892330001737:=0
def tw15702059576291342583:=0
def tw4144467678046578957:=0
def tw18068341678505479499:=0
def tw5052452171777376010:=0
def tw7460319925321027130:=0
def tw7367003266455015656:=0
def tw17045491686132121858:=0
def tw6209406825201799004:=0
def tw14044212372944617242:=0
def tw14210597122638237988:=0
def tw7336288401577196553:=0
def tw13120528809513377940:=0
def tw9398495006209551951:=0
def tw13571326687563924390:=0
def tw5020144428299498523:=0
def tw4948835672689226709:=0
def tw2852337402323997579:=0
def tw9176531352965691517:=0
def tw7395457037311283015:=0
def tw8658409997514215954:=0
def tw15903822384144149650:=0
def tw9043854062684147642:=0
def tw18167140585188355736:=0
def tw13308324964481497046:=0
def tw14558474647375741800:=0
def tw9831400201870751520:=0
def tw10478110928455030762:=0
def tw17809447815137252346:=0
def tw9863918179571604059:=0
def tw13857650864991876507:=0
def tw7612408344394894686:=0
def tw17240922549151560991:=0
def tw16930874983173804297:=0
def tw9340414867063070984:=0
def tw5526830725752118783:=0
def tw12111853911619611489:=0
def tw9589741671191894527:=0
def tw16060077811094512281:=0
def tw9628553200116772240:=0
def tw7557267194513191842:=0
def tw138927208495137499:=0
def tw1422157765924399106:=0
def tw1685939897506005857:=0
def tw4599518405374267775:=0
def tw13977525703905053753:=0
def tw2401945808596567976:=0
def tw13999268124210462849:=0
def tw9777238473169330261:=0
def tw6875550916980454996:=0
def tw2399647580885820411:=0
def tw10894340680988758477:=0
def tw10467919434708138062:=0
def tw5456666122075472649:=0
def tw5075958534747095578:=0
def tw12738039515545005309:=0
def tw16532174688932857923:=0
def tw3352299941119072388:=0
def tw13447117292919825290:=0
def tw6025372975576672350:=0
def tw12808848341064141989:=0
def tw6444525103258079243:=0
def tw3260948113823126505:=0
def tw7149192846906163633:=0
def tw16770445091700015236:=0
def tw9600172456331185862:=0
def tw70693380861816908:=0
def tw14313394880625890355:=0
def tw2041583127123651319:=0
def tw11425197122703883527:=0
def tw18347295780332595682:=0
def tw13138765870065321698:=0
def tw15663398701110730968:=0
def tw9914705196563879849:=0
def tw2347411883497019876:=0
def tw18276580109636438010:=0
def tw17572900457605329742:=0
def tw9597175541947435192:=0
def tw9118203241629325568:=0
def tw8529108511309700048:=0
def tw15327764079421044358:=0
def tw12782932640176200680:=0
end PySem.W.Fast
set_option Elab.async false
set_option linter.all false
set_option maxRecDepth 100000
set_option maxHeartbeats 2000000
namespace WL
open PySem PySem.Spec PyProof.Rows L2
theorem fin_ok {P : Program} {w : World} {K : PySem.W.Frag} {mg : Str → Option Value} {A : Ad} {fa : Addr} (T : Tx A K mg) (e : A.f_answers = fa) :
  ∃ fd : FuncData, (∀ (s : Shared) (us : List Value), us.length = (["calls"] : List Str).length → BindsTo s fd ⟨us, []⟩ ((["calls"] : List Str).zip us)) ∧ ∀ base : Heap, K.In base → base.Ns mainGlobals mg → FnOk P w K mg base CX0 13 fa fd ["calls"] (sp_answers K) := by
 subst e
 obtain ⟨oc, od, kV, doc, pm, an, cdv, ct, osl, efd, lk, hcd⟩ := T.F_answers.ex
 refine ⟨A.fd_answers, fun s us hu => ?_, fun base _ _ => ok_answers T⟩
 rw [efd]
 match us, hu with
 | [_], _ => exact .of_eq rfl
end WL
open PySem PySem.W PyProof.Rows
set_option maxRecDepth 100000 in
set_option maxHeartbeats 0 in
theorem PySem.Challenge.cw_widthlayout_s01_answers_holds : PySem.Challenge.rw_widthlayout_s01_answers.Holds := by
 w_on; k_headS; (case hw => exact ⟨[.list [.int 1]], by decide +kernel, by decide +kernel⟩)
 k_fillS
 refine L2.walk_specK (r := PySem.Challenge.rw_widthlayout_s01_answers) (k := 13) (CX := L2.CX0) (ps := ["calls"]) (sp := WL.sp_answers) (by decide +kernel) rfl rfl ⟨rfl, by decide, by decide⟩ (fun w h Y => PySem.W.kIn_of Y) ?F ?S (fun _ _ _ _ z => z)
 case F =>
  intro w mg fa h Y KX G hmg
  refine' WL.all_mk KX G hmg ?kk ?h1 ?h2 ?h3 ?h4 ?h5 ?h6 ?h7 ?h8 ?h9 ?h10 ?h11 ?h12 ?h13 ?h14 ?h15 ?h16 ?h17 ?h18 ?h19 ?h20 ?h21 ?h22 ?h23 ?h24 ?h25 ?h26 ?h27 ?h28 ?h29 ?h30 ?h31 ?h32 ?h33 ?h34 ?h35 ?h36 ?h37 ?h38 ?h39 ?h40 ?h41 ?h42 ?h43 ?h44 ?h45 ?h46 ?h47 ?h48 ?h49 ?h50 ?h51 ?h52 ?h53 ?h54 ?h55 ?h56 ?h57 ?h58 ?h59 ?h60 ?h61 ?h62 ?h63 ?h64 ?h65 ?h66 ?h67 ?h68 ?h69 ?h70 ?h71 ?h72 ?h73 ?h74 ?h75 ?h76 ?h77 ?h78 ?h79 ?h80 ?h81 ?h82 ?h83 ?h84 ?h85 ?h86 ?h87 ?h88 ?h89 ?h90 ?h91 ?h92 ?h93 ?h94 ?h95 ?h96 ?h97 ?h98 ?h99 ?h100 ?h101 ?h102 ?h103 ?h104 ?h105 ?h106 ?h107 ?h108 ?h109 ?h110 ?h111 ?h112 ?h113 ?h114 ?h115 ?h116 ?h117 ?h118 ?h119 ?h120 ?h121 ?h122 ?h123 ?h124 ?h125 ?h126 ?h127 ?h128 ?h129 ?h130 ?h131 ?h132 ?h133 ?h134 ?h135 ?h136 ?h137 ?h138 ?h139 ?h140 ?h141 ?h142 ?h143 ?h144 ?h145 ?h146 ?h147 ?h148 ?h149 ?h150 ?h151 ?h152 ?h153 ?h154 ?h155 ?h156 ?h157 ?h158 ?h159 ?h160 ?h161 ?h162 ?h163 ?h164 ?h165 ?h166 ?h167 ?h168 ?h169 ?h170 ?h171 ?h172 ?h173 ?h174 ?h175 ?h176 ?h177 ?h178 ?h179 ?h180 ?h181 ?h182 ?h183 ?h184 ?h185 ?h186 ?h187 ?h188 ?h189 ?h190 ?h191 ?h192 ?h193 ?h194 ?h195 ?h196 ?h197 ?h198 ?h199 ?h200 ?h201 ?h202 ?h203 ?h204 ?h205 ?h206 ?h207 ?h208 ?h209 ?h210 ?h211 ?h212 ?h213 ?h214 ?h215 ?h216 ?h217 ?h218 ?h219 ?h220 ?h221 ?h222 ?h223 ?h224 ?h225 ?h226 ?h227 ?h228 ?h229 ?h230 ?h231 ?h232 ?h233 ?h234 ?h235 ?h236 ?h237 ?h238 ?h239 ?h240 ?h241 ?h242 ?h243 ?h244 ?h245 ?h246 ?h247 ?h248 ?h249 ?h250 ?h251 ?h252 ?h253 ?h254 ?h255 ?h256 ?h257 ?h258 ?h259 ?h260 ?h261 ?h262 ?h263 ?h264 ?h265 ?h266 ?h267 ?h268 ?h269 ?h270 ?h271 ?h272 ?h273 ?h274 ?h275 ?h276 ?h277 ?h278 ?h279 ?h280 ?h281 ?h282 ?h283 ?h284 ?h285 ?h286 ?h287 ?h288 ?h289 ?h290 ?h291 ?h292 ?h293 ?h294 ?h295 ?h296 ?h297 ?h298 ?h299 ?h300 ?h301 ?h302 ?h303 ?h304 ?h305 ?h306 ?h307 ?h308 ?h309 ?h310 ?h311 ?h312 ?h313 ?h314 ?h315 ?h316 ?h317 ?h318 ?h319 ?h320 ?h321 ?h322 ?h323 ?h324 ?h325 ?h326 ?h327 ?h328 ?h329 ?h330 ?h331 ?h332 ?h333 ?h334 ?h335 ?h336 ?h337 ?h338 ?h339 ?h340 ?h341 ?h342 ?h343 ?h344 ?h345 ?h346 ?h347 ?h348 ?h349 ?h350 ?h351 ?h352 ?h353 ?h354 ?h355 ?h356 ?h357 ?h358 ?h359 ?h360 ?h361 ?h362 ?h363 ?h364 ?h365 ?h366 ?h367 ?h368 ?h369 ?h370 ?h371 ?h372 ?h373 ?h374 ?h375 ?h376 ?h377 ?h378 ?h379 ?h380 ?h381 ?h382 ?h383 ?h384 ?h385 ?h386 ?h387 ?h388 ?h389 ?h390 ?h391 ?h392 ?h393 ?h394 ?h395 ?h396 ?h397 ?h398 ?h399 ?h400 ?h401 ?h402 ?h403 ?h404 ?h405 ?h406 ?h407 ?h408 ?h409 ?h410 ?h411 ?h412 ?h413 ?h414 ?h415 ?h416 ?h417 ?h418 ?h419 ?h420 ?h421 ?h422 ?h423 ?h424 ?h425 ?h426 ?h427 ?h428 ?h429 ?h430 ?h431 ?h432 ?h433 ?h434 ?h435 ?h436 ?h437 ?h438 ?h439 ?h440 ?h441 ?h442 ?h443 ?h444 ?h445 ?h446 ?h447 ?h448 ?h449 ?h450 ?h451 ?h452 ?h453 ?h454 ?h455 ?h456 ?h457 ?h458 ?h459 ?h460 ?h461 ?h462 ?h463 ?h464
  (case h1 => k_is); (case h2 => k_is); (case h3 => k_is); (case h4 => k_is); (case h5 => k_is); (case h6 => k_is); (case h7 => k_is); (case h8 => k_is); (case h9 => k_is); (case h10 => k_is)
  (case h11 => k_is); (case h12 => k_is); (case h13 => k_is); (case h14 => k_is); (case h15 => k_is); (case h16 => k_is); (case h17 => k_is); (case h18 => k_is); (case h19 => k_is); (case h20 => k_is)
  (case h21 => k_is); (case h22 => k_is); (case h23 => k_is); (case h24 => k_is); (case h25 => k_is); (case h26 => k_is); (case h27 => k_is); (case h28 => k_is); (case h29 => k_is); (case h30 => k_is)
  (case h31 => k_is); (case h32 => k_is); (case h33 => k_is); (case h34 => k_is); (case h35 => k_is); (case h36 => k_is); (case h37 => k_is); (case h38 => k_is); (case h39 => k_is); (case h40 => k_is)
  (case h41 => k_is); (case h42 => k_is); (case h43 => k_is); (case h44 => k_is); (case h45 => k_is); (case h46 => k_is); (case h47 => k_is); (case h48 => k_is); (case h49 => k_is); (case h50 => k_is)
  (case h51 => k_is); (case h52 => k_is); (case h53 => k_is); (case h54 => k_is); (case h55 => k_is); (case h56 => k_is); (case h57 => k_is); (case h58 => k_is); (case h59 => k_is); (case h60 => k_is)
  (case h61 => k_is); (case h62 => k_is); (case h63 => k_is); (case h64 => k_is); (case h65 => k_is); (case h66 => k_is); (case h67 => k_is); (case h68 => k_is); (case h69 => k_is); (case h70 => k_is)
  (case h71 => k_is); (case h72 => k_is); (case h73 => k_is); (case h74 => k_is); (case h75 => k_is); (case h76 => k_is); (case h77 => k_is); (case h78 => k_is); (case h79 => k_is); (case h80 => k_is)
  (case h81 => k_is); (case h82 => k_is); (case h83 => k_is); (case h84 => k_is); (case h85 => k_is); (case h86 => k_is); (case h87 => k_is); (case h88 => k_is); (case h89 => k_is); (case h90 => k_is)
  (case h91 => k_is); (case h92 => k_is); (case h93 => k_is); (case h94 => k_is); (case h95 => k_is); (case h96 => k_is); (case h97 => k_is); (case h98 => k_is); (case h99 => k_is); (case h100 => k_is)
  (case h101 => k_is); (case h102 => k_is); (case h103 => k_is); (case h104 => k_is); (case h105 => k_is); (case h106 => k_is); (case h107 => k_is); (case h108 => k_is); (case h109 => k_is); (case h110 => k_is)
  (case h111 => k_is); (case h112 => k_is); (case h113 => k_is); (case h114 => k_is); (case h115 => k_is); (case h116 => k_is); (case h117 => k_is); (case h118 => k_is); (case h119 => k_is); (case h120 => k_is)
  (case h121 => k_is); (case h122 => k_is); (case h123 => k_is); (case h124 => k_is); (case h125 => k_is); (case h126 => k_is); (case h127 => k_is); (case h128 => k_is); (case h129 => k_is); (case h130 => k_is)
  (case h131 => k_is); (case h132 => k_is); (case h133 => k_is); (case h134 => k_is); (case h135 => k_is); (case h136 => k_is); (case h137 => k_is); (case h138 => k_is); (case h139 => k_is); (case h140 => k_is)
  (case h141 => k_is); (case h142 => k_is); (case h143 => k_is); (case h144 => k_is); (case h145 => k_is); (case h146 => k_is); (case h147 => k_is); (case h148 => k_is); (case h149 => k_is); (case h150 => k_is)
  (case h151 => k_is); (case h152 => k_is); (case h153 => k_is); (case h154 => k_is); (case h155 => k_is); (case h156 => k_is); (case h157 => k_is); (case h158 => k_is); (case h159 => k_is); (case h160 => k_is)
  (case h161 => k_is); (case h162 => k_is); (case h163 => k_is); (case h164 => k_is); (case h165 => k_is); (case h166 => k_is); (case h167 => k_is); (case h168 => k_is); (case h169 => k_is); (case h170 => k_is)
  (case h171 => k_is); (case h172 => k_is); (case h173 => k_is); (case h174 => k_is); (case h175 => k_is); (case h176 => k_is); (case h177 => k_is); (case h178 => k_is); (case h179 => k_is); (case h180 => k_is)
  (case h181 => k_is); (case h182 => k_is); (case h183 => k_is); (case h184 => k_is); (case h185 => k_is); (case h186 => k_is); (case h187 => k_is); (case h188 => k_is); (case h189 => k_is); (case h190 => k_is)
  (case h191 => k_is); (case h192 => k_is); (case h193 => k_is); (case h194 => k_is); (case h195 => k_is); (case h196 => k_is); (case h197 => k_is); (case h198 => k_is); (case h199 => k_is); (case h200 => k_is)
  (case h201 => k_is); (case h202 => k_is); (case h203 => k_is); (case h204 => k_is); (case h205 => k_is); (case h206 => k_is); (case h207 => k_is); (case h208 => k_is); (case h209 => k_is); (case h210 => k_is)
  (case h211 => k_is); (case h212 => k_is); (case h213 => k_is); (case h214 => k_is); (case h215 => k_is); (case h216 => k_is); (case h217 => k_is); (case h218 => k_is); (case h219 => k_is); (case h220 => k_is)
  (case h221 => k_is); (case h222 => k_is); (case h223 => k_is); (case h224 => k_is); (case h225 => k_is); (case h226 => k_is); (case h227 => k_is); (case h228 => k_is); (case h229 => k_is); (case h230 => k_is)
  (case h231 => k_is); (case h232 => k_is); (case h233 => k_is); (case h234 => k_is); (case h235 => k_is); (case h236 => k_is); (case h237 => k_is); (case h238 => k_is); (case h239 => k_is); (case h240 => k_is)
  (case h241 => k_is); (case h242 => k_is); (case h243 => k_is); (case h244 => k_is); (case h245 => k_is); (case h246 => k_is); (case h247 => k_is); (case h248 => k_is); (case h249 => k_is); (case h250 => k_is)
  (case h251 => k_is); (case h252 => k_is); (case h253 => k_is); (case h254 => k_is); (case h255 => k_is); (case h256 => k_is); (case h257 => k_is); (case h258 => k_is); (case h259 => k_is); (case h260 => k_is)
  (case h261 => k_is); (case h262 => k_is); (case h263 => k_is); (case h264 => k_is); (case h265 => k_is); (case h266 => k_is); (case h267 => k_is); (case h268 => k_is); (case h269 => k_is); (case h270 => k_is)
  (case h271 => k_is); (case h272 => k_is); (case h273 => k_is); (case h274 => k_is); (case h275 => k_is); (case h276 => k_is); (case h277 => k_is); (case h278 => k_is); (case h279 => k_is); (case h280 => k_is)
  (case h281 => k_is); (case h282 => k_is); (case h283 => k_is); (case h284 => k_is); (case h285 => k_is); (case h286 => k_is); (case h287 => k_is); (case h288 => k_is); (case h289 => k_is); (case h290 => k_is)
  (case h291 => k_is); (case h292 => k_is); (case h293 => k_is); (case h294 => k_is); (case h295 => k_is); (case h296 => k_is); (case h297 => k_is); (case h298 => k_is); (case h299 => k_is); (case h300 => k_is)
  (case h301 => k_is); (case h302 => k_is); (case h303 => k_is); (case h304 => k_is); (case h305 => k_is); (case h306 => k_is); (case h307 => k_is); (case h308 => k_is); (case h309 => k_is); (case h310 => k_is)
  (case h311 => k_is); (case h312 => k_is); (case h313 => k_is); (case h314 => k_is); (case h315 => k_is); (case h316 => k_is); (case h317 => k_is); (case h318 => k_is); (case h319 => k_is); (case h320 => k_is)
  (case h321 => k_is); (case h322 => k_is); (case h323 => k_is); (case h324 => k_is); (case h325 => k_is); (case h326 => k_is); (case h327 => k_is); (case h328 => k_is); (case h329 => k_is); (case h330 => k_is)
  (case h331 => k_is); (case h332 => k_is); (case h333 => k_is); (case h334 => k_is); (case h335 => k_is); (case h336 => k_is); (case h337 => k_is); (case h338 => k_is); (case h339 => k_is); (case h340 => k_is)
  (case h341 => k_is); (case h342 => k_is); (case h343 => k_is); (case h344 => k_is); (case h345 => k_is); (case h346 => k_is); (case h347 => k_is); (case h348 => k_is); (case h349 => k_is); (case h350 => k_is)
  (case h351 => k_is); (case h352 => k_is); (case h353 => k_is); (case h354 => k_is); (case h355 => k_is); (case h356 => k_is); (case h357 => k_is); (case h358 => k_is); (case h359 => k_is); (case h360 => k_is)
  (case h361 => k_is); (case h362 => k_is); (case h363 => k_is); (case h364 => k_is); (case h365 => k_is); (case h366 => k_is); (case h367 => k_is); (case h368 => k_is); (case h369 => k_is); (case h370 => k_is)
  (case h371 => k_is); (case h372 => k_is); (case h373 => k_is); (case h374 => k_is); (case h375 => k_is); (case h376 => k_is); (case h377 => k_is); (case h378 => k_is); (case h379 => k_is); (case h380 => k_is)
  (case h381 => k_is); (case h382 => k_is); (case h383 => k_is); (case h384 => k_is); (case h385 => k_is); (case h386 => k_is); (case h387 => k_is); (case h388 => k_is); (case h389 => k_is); (case h390 => k_is)
  (case h391 => k_is); (case h392 => k_is); (case h393 => k_is); (case h394 => k_is); (case h395 => k_is); (case h396 => k_is); (case h397 => k_is); (case h398 => k_is); (case h399 => k_is); (case h400 => k_is)
  (case h401 => k_is); (case h402 => k_is); (case h403 => k_is); (case h404 => k_is); (case h405 => k_is); (case h406 => k_is); (case h407 => k_is); (case h408 => k_is); (case h409 => k_is); (case h410 => k_is)
  (case h411 => k_is); (case h412 => k_is); (case h413 => k_is); (case h414 => k_is); (case h415 => k_is); (case h416 => k_is); (case h417 => k_is); (case h418 => k_is); (case h419 => k_is); (case h420 => k_is)
  (case h421 => k_is); (case h422 => k_is); (case h423 => k_is); (case h424 => k_is); (case h425 => k_is); (case h426 => k_is); (case h427 => k_is); (case h428 => k_is); (case h429 => k_is); (case h430 => k_is)
  (case h431 => k_is); (case h432 => k_is); (case h433 => k_is); (case h434 => k_is); (case h435 => k_is); (case h436 => k_is); (case h437 => k_is); (case h438 => k_is); (case h439 => k_is); (case h440 => k_is)
  (case h441 => k_is); (case h442 => k_is); (case h443 => k_is); (case h444 => k_is); (case h445 => k_is); (case h446 => k_is); (case h447 => k_is); (case h448 => k_is); (case h449 => k_is); (case h450 => k_is)
  (case h451 => k_is); (case h452 => k_is); (case h453 => k_is); (case h454 => k_is); (case h455 => k_is); (case h456 => k_is); (case h457 => k_is); (case h458 => k_is); (case h459 => k_is); (case h460 => k_is)
  (case h461 => k_is); (case h462 => k_is); (case h463 => k_is); (case h464 => k_is)
  case kk => exact fun A T e => WL.fin_ok T e
 case S =>
  intro K H xs a hO hwi hask hx
  cases hx with
  | cons h1 h2 =>
   cases h2
   cases h1 with
   | lst hs ha =>
    have e := L2.ints_dw a.1 _ ha
    subst e
    obtain ⟨cs, e1, hC, hA, e2, hlen, _⟩ := WL.asked_open (l := a.1) hask
    rw [e2] at hlen
    refine ⟨_, cs, rfl, by rw [← e1]; exact hs, hC, hA, hlen, fun H' p hp => ?_⟩
    rw [← e2] at hp
    exact .lst (L2.SqL.of hp) (L2.dw_ints _)
